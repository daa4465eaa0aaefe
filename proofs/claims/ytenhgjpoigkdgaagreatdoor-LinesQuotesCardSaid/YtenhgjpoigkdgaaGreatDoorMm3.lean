/- An argument of type []string, opened; the table of marks, as a row that lists it reads it. No condition. -/
import Derived.Test.YtenhgjpoigkdgaaGreatDoorMm2
import Derived.Test.YtenhgjpoigkdgaaGreatDoorLc1
namespace Go.Proofs.YtenhgjpoigkdgaaGreatDoor.Ln
open Go.ChangeShapes Go.WideShapes Go.ChangeAt Go.RowKit
theorem nMarks : Tryz.prog.globalNamed "nearhand/wire.marks" = some 0 := by kernel_rfl
theorem yMarks : (Tryz.prog.globals[0]?).map (·.type) = some 59 := by kernel_rfl
theorem marksEq : (Rows.laid_nearhand_wire_marks : DataW Unit) = .agg (marksL.map fun b => .lit (.int .u8 (b.toNat : Int))) := by kernel_rfl
theorem marks_of_reads {w : World} (h : Lib.VarReads Tryz.prog w "nearhand/wire.marks" Rows.laid_nearhand_wire_marks) : Marks w := by
  intro i hi
  obtain ⟨g, t, cs, fuel, p, hg, hty, hvar, hd⟩ := h
  obtain rfl := Option.some.inj (nMarks.symm.trans hg)
  obtain rfl := Option.some.inj (yMarks.symm.trans hty)
  rw [marksEq] at hd
  have hlen : marksL.length = 15 := rfl
  obtain ⟨m, hm⟩ : ∃ m, marksL[i]? = some m := ⟨marksL[i]'(by omega), List.getElem?_eq_getElem (by omega)⟩
  rw [show marksL.getD i 0 = m by rw [List.getD_eq_getElem?_getD, hm]; rfl]
  obtain ⟨fuel', d, q, hdi, he⟩ := Lib.array_elem Tryz.underlying59 hd i hi
  rw [List.getElem?_map, hm] at hdi
  simp only [Option.map_some, Option.some.injEq] at hdi
  subst hdi
  rw [cU8] at he
  obtain ⟨z, hz, hb, -⟩ := DataW.trod_int Tryz.underlying5 he
  have hz2 : z = (m.toNat : Int) := by
    have := congrArg Prod.fst hb
    simp only [DataW.lit.injEq, Lit.int.injEq, true_and] at this
    exact this.symm
  subst hz2
  have e0 := congrArg (·[0]?) hz
  simp only [List.getElem?_take, List.getElem?_drop] at e0
  rw [World.var?_cell hg hvar i, ← Array.getElem?_toList]
  simpa using e0
set_option maxRecDepth 100000 in
theorem open_strs {H : Type} {enc : TypeId × Value → H} {W : World} {base b0 : Nat} {r : Reach} {held : Bool} {v : Value} {d : DataW H} {ps : List MemPlace} (hv : Value.okWide Tryz.prog W r b0 32 v)
    (h : DataW.Trod enc Tryz.prog W base (fun _ => true) held 32 v d ps) :
    ∃ (a : Option Addr) (c : Nat) (ws : List (List UInt8)), v = .slice a ws.length c ∧ ws.length ≤ c ∧ c ≤ 9223372036854775807 ∧ InSo W a ws := by
  obtain ⟨fuel, h⟩ := h
  obtain ⟨a0, len0, cap0, rfl⟩ := okWide_slice Tryz.underlying32 hv
  rcases DataW.trod_slice Tryz.underlying32 h with ⟨e, -⟩ | ⟨a, len, cap, elems, rest, n, hf, e, hx, hb, hl, hm, hlen, hel, hsp, -⟩
  · have e : [Value.slice a0 len0 cap0] = [.slice none 0 0] := e
    injection e with e _
    injection e with e1 e2 e3
    subst e1 e2 e3
    exact ⟨none, 0, [], rfl, Nat.le_refl _, Nat.zero_le _, fun h => absurd h (Nat.lt_irrefl _)⟩
  · have e : [Value.slice a0 len0 cap0] = [.slice (some a) len cap] := e
    injection e with e _
    injection e with e1 e2 e3
    subst e1 e2 e3
    have hkid : ∀ i, i < len0 → ∃ t : ByteArray, W.cell? (a.add i) = some (.string t) := by
      intro i hi
      have he := hel i hi
      rw [cStr, List.getElem?_eq_getElem (by omega), Nat.mul_one] at he
      cases hc : W.cells? base (a.add i) 1 with
      | none => rw [hc] at he; cases he
      | some cs' =>
        rw [hc] at he
        obtain ⟨t, rfl, hy, -⟩ := DataW.trod_string Tryz.underlying9 he
        obtain ⟨-, -, hat⟩ := World.cells?_some hc
        have h0 := hat 0 (by omega)
        rw [Go.Deep.add_add] at h0
        exact ⟨t, by simpa using h0⟩
    let T : Nat → List UInt8 := fun i => if hi : i < len0 then (Classical.choose (hkid i hi)).data.toList else []
    have hT : ∀ i (hi : i < len0), W.cell? (a.add i) = some (.string ⟨(T i).toArray⟩) := fun i hi => by
      show _ = some (Value.string ⟨(if hi : i < len0 then _ else _ : List UInt8).toArray⟩)
      rw [dif_pos hi, text_mk]
      exact Classical.choose_spec (hkid i hi)
    have hwl : ((List.range len0).map T).length = len0 := by simp
    refine ⟨some a, cap0, (List.range len0).map T, by rw [hwl], by rw [hwl]; exact hl, by unfold maxLen at hm; omega, fun hp => ?_⟩
    rw [hwl] at hp
    obtain ⟨ab, ao, spot⟩ := a
    have hspot : spot = none := by simpa [Addr.add] using World.cell?_spot (hT 0 hp)
    subst hspot
    refine ⟨ab, ao, rfl, fun i hi => ?_⟩
    rw [hwl] at hi
    have hc := hT i hi
    rw [Addr.add_lit] at hc
    rw [hc]
    simp
end Go.Proofs.YtenhgjpoigkdgaaGreatDoor.Ln
