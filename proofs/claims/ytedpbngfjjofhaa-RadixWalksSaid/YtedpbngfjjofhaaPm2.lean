/- Arguments of type []string, opened. No condition. -/
import Derived.Test.YtedpbngfjjofhaaCm1
import Derived.Test.YtedpbngfjjofhaaPc3
import Derived.Deep.Slices
import Derived.Deep.Fields
import Derived.Deep.Strs
import Derived.SizedLaws
import Derived.Lib.LaidU8
namespace Go.Proofs.Ytedpbngfjjofhaa.Cm
open Go.ChangeShapes Go.WideShapes Go.ChangeAt Go.RowKit
open Go.Proofs.Ytedpbngfjjofhaa.Pb (InO)
theorem k_str : Try.prog.cellsOf 9 = 1 := by kernel_rfl
set_option maxRecDepth 100000 in
theorem open_strsO {H : Type} {enc : TypeId × Value → H} {W : World} {base b0 : Nat} {r : Reach} {held : Bool} {v : Value} {d : DataW H} {ps : List MemPlace} (hv : Value.okWide Try.prog W r b0 44 v)
    (h : DataW.Trod enc Try.prog W base (fun _ => true) held 44 v d ps) :
    ∃ (a : Option Addr) (c : Nat) (l : List ByteArray), v = .slice a l.length c ∧ InO W a l ∧ ∀ i (h : i < l.length), l[i].size ≤ maxLen := by
  obtain ⟨fuel, h⟩ := h
  obtain ⟨a0, len0, cap0, rfl⟩ := okWide_slice Try.underlying44 hv
  rcases DataW.trod_slice Try.underlying44 h with ⟨e, -⟩ | ⟨a, len, cap, elems, rest, n, hf, e, hx, hb, hl, hm, hlen, hel, hsp, -⟩
  · have e : [Value.slice a0 len0 cap0] = [.slice none 0 0] := e
    injection e with e _
    injection e with e1 e2 e3
    subst e1 e2 e3
    exact ⟨none, 0, [], rfl, fun h => absurd h (Nat.lt_irrefl _), fun i h => absurd h (Nat.not_lt_zero _)⟩
  · have e : [Value.slice a0 len0 cap0] = [.slice (some a) len cap] := e
    injection e with e _
    injection e with e1 e2 e3
    subst e1 e2 e3
    have hkid : ∀ i, i < len0 → ∃ t : ByteArray, W.cell? (a.add i) = some (.string t) ∧ t.size ≤ maxLen := by
      intro i hi
      have he := hel i hi
      rw [k_str, List.getElem?_eq_getElem (by omega), Nat.mul_one] at he
      cases hc : W.cells? base (a.add i) 1 with
      | none => rw [hc] at he; cases he
      | some cs' =>
        rw [hc] at he
        obtain ⟨t, rfl, -, hs⟩ := DataW.trod_string Try.underlying9 he
        obtain ⟨-, -, hat⟩ := World.cells?_some hc
        have h0 := hat 0 (by omega)
        rw [Go.Deep.add_add] at h0
        exact ⟨t, by simpa using h0, hs⟩
    obtain ⟨K, hK⟩ := Go.Deep.choose_lt hkid
    have hwl : ((List.range len0).map K).length = len0 := by simp
    have eg : ∀ i (h : i < ((List.range len0).map K).length), ((List.range len0).map K)[i] = K i := fun i h => by simp
    refine ⟨some a, cap0, (List.range len0).map K, by rw [hwl], fun hp => ?_, fun i hi => by rw [eg]; exact (hK i (by rw [hwl] at hi; exact hi)).2⟩
    rw [hwl] at hp
    obtain ⟨b, o, sp⟩ := a
    have h0 : W.cell? ⟨b, o + 0, sp⟩ = some (.string (K 0)) := (hK 0 hp).1
    have hs := cell_spot h0
    subst hs
    refine ⟨b, o, rfl, World.block_lt_of_cell? W _ h0, fun i hi => ?_⟩
    rw [eg]
    rw [hwl] at hi
    have hc := (hK i hi).1
    rw [Addr.add_lit] at hc
    exact hc
end Go.Proofs.Ytedpbngfjjofhaa.Cm
