/- Arguments of types []Act and []string, opened. No condition. -/
import Derived.Test.YtljobmohmbeafaaCm1
import Derived.Test.YtljobmohmbeafaaCab
import Derived.Test.YtljobmohmbeafaaCac
import Derived.Deep.Slices
import Derived.Deep.Fields
import Derived.Deep.Strs
import Derived.SizedLaws
import Derived.Lib.LaidU8
namespace Go.Proofs.Ytljobmohmbeafaa.Cm
open Go.ChangeShapes Go.WideShapes Go.ChangeAt Go.RowKit
open Go.Proofs.Ytljobmohmbeafaa.Ca
theorem k_int : Try.prog.cellsOf 3 = 1 := by kernel_rfl
theorem k_str : Try.prog.cellsOf 9 = 1 := by kernel_rfl
theorem k_act : Try.prog.cellsOf 28 = 2 := by kernel_rfl
set_option maxRecDepth 100000 in
theorem open_act {H : Type} {enc : TypeId × Value → H} {W : World} {base : Nat} {held : Bool} (fuel : Nat) (cs : List Value) (x : DataW H × List MemPlace) (h : DataW.trod enc Try.prog W base (fun _ => true) held fuel 28 cs = some x) :
    ∃ q : Ac, cs = [.int .i64 q.k, .string q.s] ∧ q.s.size ≤ maxLen := by
  obtain ⟨y0, y1, n, rfl, hlen, h0, h1⟩ := Go.ChangeShapes.trod_struct2 Try.underlying28 h
  rw [k_act] at hlen
  match cs, hlen with
  | [c0, c1], _ =>
    have h0 : DataW.trod enc Try.prog W base (fun _ => true) held n 3 (List.take (Try.prog.cellsOf 3) [c0, c1]) = some y0 := h0
    rw [k_int] at h0
    have h1 : DataW.trod enc Try.prog W base (fun _ => true) held n 9 (List.take (Try.prog.cellsOf 9) [c1]) = some y1 := h1
    rw [k_str] at h1
    obtain ⟨k, e0, -, -⟩ := DataW.trod_int Try.underlying3 h0
    obtain ⟨t, e1, -, hs⟩ := DataW.trod_string Try.underlying9 h1
    injection e0 with e0 _
    injection e1 with e1 _
    exact ⟨⟨k, t⟩, by rw [e0, e1], hs⟩
set_option maxRecDepth 100000 in
theorem open_actsA {H : Type} {enc : TypeId × Value → H} {W : World} {base b0 : Nat} {r : Reach} {held : Bool} {v : Value} {d : DataW H} {ps : List MemPlace} (hv : Value.okWide Try.prog W r b0 22 v)
    (h : DataW.Trod enc Try.prog W base (fun _ => true) held 22 v d ps) :
    ∃ (a : Option Addr) (c : Nat) (l : List Ac), v = .slice a l.length c ∧ InA W a l ∧ ∀ i (h : i < l.length), l[i].s.size ≤ maxLen := by
  obtain ⟨fuel, h⟩ := h
  obtain ⟨a0, len0, cap0, rfl⟩ := okWide_slice Try.underlying22 hv
  rcases DataW.trod_slice Try.underlying22 h with ⟨e, -⟩ | ⟨a, len, cap, elems, rest, n, hf, e, hx, hb, hl, hm, hlen, hel, hsp, -⟩
  · have e : [Value.slice a0 len0 cap0] = [.slice none 0 0] := e
    injection e with e _
    injection e with e1 e2 e3
    subst e1 e2 e3
    exact ⟨none, 0, [], rfl, fun h => absurd h (Nat.lt_irrefl _), fun i h => absurd h (Nat.not_lt_zero _)⟩
  · have e : [Value.slice a0 len0 cap0] = [.slice (some a) len cap] := e
    injection e with e _
    injection e with e1 e2 e3
    subst e1 e2 e3
    have hkid : ∀ i, i < len0 → ∃ q : Ac, (∀ j, j < 2 → W.cell? (a.add (i * 2 + j)) = [Value.int .i64 q.k, .string q.s][j]?) ∧ q.s.size ≤ maxLen := by
      intro i hi
      have he := hel i hi
      rw [k_act, List.getElem?_eq_getElem (by omega)] at he
      cases hc : W.cells? base (a.add (i * 2)) 2 with
      | none => rw [hc] at he; cases he
      | some cs' =>
        rw [hc] at he
        obtain ⟨q, rfl, hs⟩ := open_act n _ _ he
        obtain ⟨-, -, hat⟩ := World.cells?_some hc
        exact ⟨q, fun j hj => by rw [← Go.Deep.add_add, hat j hj], hs⟩
    haveI : Inhabited Ac := ⟨⟨0, ⟨#[]⟩⟩⟩
    obtain ⟨K, hK⟩ := Go.Deep.choose_lt hkid
    have hwl : ((List.range len0).map K).length = len0 := by simp
    have eg : ∀ i (h : i < ((List.range len0).map K).length), ((List.range len0).map K)[i] = K i := fun i h => by simp
    refine ⟨some a, cap0, (List.range len0).map K, by rw [hwl], fun hp => ?_, fun i hi => by rw [eg]; exact (hK i (by rw [hwl] at hi; exact hi)).2⟩
    rw [hwl] at hp
    obtain ⟨b, o, sp⟩ := a
    have h0 : W.cell? ⟨b, o + (0 * 2 + 0), sp⟩ = some (.int .i64 (K 0).k) := (hK 0 hp).1 0 (by omega)
    have hs := cell_spot h0
    subst hs
    refine ⟨b, o, rfl, World.block_lt_of_cell? W _ h0, fun i hi => ?_⟩
    rw [eg]
    rw [hwl] at hi
    have e : ∀ q, (Addr.add ⟨b, o, none⟩ (i * 2 + q)) = ⟨b, o + i * 2 + q, none⟩ := fun q => by rw [Addr.add_lit, Nat.add_assoc]
    exact ⟨by rw [← Nat.add_zero (o + i * 2), ← e 0]; exact (hK i hi).1 0 (by omega), by rw [← e 1]; exact (hK i hi).1 1 (by omega)⟩
set_option maxRecDepth 100000 in
theorem open_strsO {H : Type} {enc : TypeId × Value → H} {W : World} {base b0 : Nat} {r : Reach} {held : Bool} {v : Value} {d : DataW H} {ps : List MemPlace} (hv : Value.okWide Try.prog W r b0 26 v)
    (h : DataW.Trod enc Try.prog W base (fun _ => true) held 26 v d ps) :
    ∃ (a : Option Addr) (c : Nat) (l : List ByteArray), v = .slice a l.length c ∧ InO W a l ∧ ∀ i (h : i < l.length), l[i].size ≤ maxLen := by
  obtain ⟨fuel, h⟩ := h
  obtain ⟨a0, len0, cap0, rfl⟩ := okWide_slice Try.underlying26 hv
  rcases DataW.trod_slice Try.underlying26 h with ⟨e, -⟩ | ⟨a, len, cap, elems, rest, n, hf, e, hx, hb, hl, hm, hlen, hel, hsp, -⟩
  · have e : [Value.slice a0 len0 cap0] = [.slice none 0 0] := e
    injection e with e _
    injection e with e1 e2 e3
    subst e1 e2 e3
    exact ⟨none, 0, [], rfl, fun h => absurd h (Nat.lt_irrefl _), fun i h => absurd h (Nat.not_lt_zero _)⟩
  · have e : [Value.slice a0 len0 cap0] = [.slice (some a) len cap] := e
    injection e with e _
    injection e with e1 e2 e3
    subst e1 e2 e3
    have hkid : ∀ i, i < len0 → ∃ t : ByteArray, W.cell? (a.add i) = some (.string t) ∧ t.size ≤ maxLen := by
      intro i hi
      have he := hel i hi
      rw [k_str, List.getElem?_eq_getElem (by omega), Nat.mul_one] at he
      cases hc : W.cells? base (a.add i) 1 with
      | none => rw [hc] at he; cases he
      | some cs' =>
        rw [hc] at he
        obtain ⟨t, rfl, -, hs⟩ := DataW.trod_string Try.underlying9 he
        obtain ⟨-, -, hat⟩ := World.cells?_some hc
        have h0 := hat 0 (by omega)
        rw [Go.Deep.add_add] at h0
        exact ⟨t, by simpa using h0, hs⟩
    obtain ⟨K, hK⟩ := Go.Deep.choose_lt hkid
    have hwl : ((List.range len0).map K).length = len0 := by simp
    have eg : ∀ i (h : i < ((List.range len0).map K).length), ((List.range len0).map K)[i] = K i := fun i h => by simp
    refine ⟨some a, cap0, (List.range len0).map K, by rw [hwl], fun hp => ?_, fun i hi => by rw [eg]; exact (hK i (by rw [hwl] at hi; exact hi)).2⟩
    rw [hwl] at hp
    obtain ⟨b, o, sp⟩ := a
    have h0 : W.cell? ⟨b, o + 0, sp⟩ = some (.string (K 0)) := (hK 0 hp).1
    have hs := cell_spot h0
    subst hs
    refine ⟨b, o, rfl, World.block_lt_of_cell? W _ h0, fun i hi => ?_⟩
    rw [eg]
    rw [hwl] at hi
    have hc := (hK i hi).1
    rw [Addr.add_lit] at hc
    exact hc
end Go.Proofs.Ytljobmohmbeafaa.Cm
