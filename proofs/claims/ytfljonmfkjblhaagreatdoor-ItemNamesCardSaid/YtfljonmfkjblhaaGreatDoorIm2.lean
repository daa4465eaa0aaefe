/- Arguments of the types api.Item, api.Field, []api.Field, opened. No condition. -/
import Derived.Test.YtfljonmfkjblhaaGreatDoorIm1
import Derived.Test.YtfljonmfkjblhaaGreatDoorIa4
import Derived.Deep.Slices
import Derived.Deep.Fields
import Derived.Deep.Strs
import Derived.SizedLaws
import Derived.Lib.LaidU8
namespace Go.Proofs.YtfljonmfkjblhaaGreatDoor.Im
open Go.ChangeShapes Go.WideShapes Go.ChangeAt Go.RowKit
open Go.Proofs.YtfljonmfkjblhaaGreatDoor.Ia
theorem k_int : Tryz.prog.cellsOf 3 = 1 := by kernel_rfl
theorem k_str : Tryz.prog.cellsOf 9 = 1 := by kernel_rfl
theorem k_fd : Tryz.prog.cellsOf 44 = 2 := by kernel_rfl
theorem k_fds : Tryz.prog.cellsOf 22 = 1 := by kernel_rfl
theorem k_it : Tryz.prog.cellsOf 24 = 3 := by kernel_rfl
set_option maxRecDepth 100000 in
theorem open_fd {H : Type} {enc : TypeId × Value → H} {W : World} {base : Nat} {held : Bool} (fuel : Nat) (cs : List Value) (x : DataW H × List MemPlace) (h : DataW.trod enc Tryz.prog W base (fun _ => true) held fuel 44 cs = some x) :
    ∃ q : Ia.Fd, cs = [.string q.1, .string q.2] := by
  obtain ⟨xs, n, -, -, hlen, hxl, hall⟩ := DataW.trod_struct Tryz.underlying44 h
  rw [k_fd] at hlen
  match cs, hlen with
  | [c0, c1], _ =>
    match xs, hxl with
    | [y0, y1], _ =>
      have h0 : DataW.trod enc Tryz.prog W base (fun _ => true) held n 9 (List.take (Tryz.prog.cellsOf 9) [c0, c1]) = some y0 := hall 0 _ rfl
      rw [k_str] at h0
      have h1 : DataW.trod enc Tryz.prog W base (fun _ => true) held n 9 (List.take (Tryz.prog.cellsOf 9) [c1]) = some y1 := hall 1 _ rfl
      rw [k_str] at h1
      obtain ⟨s, e0, -, -⟩ := DataW.trod_string Tryz.underlying9 h0
      obtain ⟨t, e1, -, -⟩ := DataW.trod_string Tryz.underlying9 h1
      injection e0 with e0 _
      injection e1 with e1 _
      exact ⟨(s, t), by rw [e0, e1]⟩
/-- Fields that can be read: where they lie. -/
theorem open_list {H : Type} {enc : TypeId × Value → H} {W : World} {base : Nat} {held : Bool} (fuel : Nat) (cs : List Value) (x : DataW H × List MemPlace) (h : DataW.trod enc Tryz.prog W base (fun _ => true) held fuel 22 cs = some x) :
    ∃ (a : Option Addr) (c : Nat) (l : List Ia.Fd), cs = [.slice a l.length c] ∧ l.length ≤ c ∧ c ≤ 9223372036854775807 ∧ InF W a l := by
  rcases DataW.trod_slice Tryz.underlying22 h with ⟨rfl, -⟩ | ⟨a, len, cap, elems, rest, n, hf, rfl, hx, hb, hl, hm, hlen, hel, hsp, -⟩
  · exact ⟨none, 0, [], rfl, Nat.zero_le _, Nat.zero_le _, InF.nil _ _⟩
  · have hkid : ∀ i, i < len → ∃ q : Ia.Fd, ∀ j, j < 2 → W.cell? (a.add (i * 2 + j)) = [Value.string q.1, .string q.2][j]? := by
      intro i hi
      have he := hel i hi
      rw [k_fd, List.getElem?_eq_getElem (by omega)] at he
      cases hc : W.cells? base (a.add (i * 2)) 2 with
      | none => rw [hc] at he; cases he
      | some cs' =>
        rw [hc] at he
        obtain ⟨q, rfl⟩ := open_fd n _ _ he
        obtain ⟨-, -, hat⟩ := World.cells?_some hc
        exact ⟨q, fun j hj => by rw [← Go.Deep.add_add, hat j hj]⟩
    haveI : Inhabited Ia.Fd := ⟨(⟨#[]⟩, ⟨#[]⟩)⟩
    obtain ⟨K, hK⟩ := Go.Deep.choose_lt hkid
    have hwl : ((List.range len).map K).length = len := by simp
    refine ⟨some a, cap, (List.range len).map K, by rw [hwl], by rw [hwl]; exact hl, by unfold maxLen at hm; omega, fun hp => ?_⟩
    rw [hwl] at hp
    obtain ⟨b, o, sp⟩ := a
    have h0 : W.cell? ⟨b, o + (0 * 2 + 0), sp⟩ = some (.string (K 0).1) := hK 0 hp 0 (by omega)
    have hs := cell_spot h0
    subst hs
    refine ⟨b, o, rfl, World.block_lt_of_cell? W _ h0, fun i hi => ?_⟩
    rw [hwl] at hi
    have e : ∀ q, (Addr.add ⟨b, o, none⟩ (i * 2 + q)) = ⟨b, o + i * 2 + q, none⟩ := fun q => by rw [Addr.add_lit, Nat.add_assoc]
    have eg : ((List.range len).map K)[i]'(by rw [hwl]; exact hi) = K i := by simp
    rw [eg]
    exact ⟨by rw [← Nat.add_zero (o + i * 2), ← e 0]; exact hK i hi 0 (by omega), by rw [← e 1]; exact hK i hi 1 (by omega)⟩
set_option maxRecDepth 100000 in
theorem open_item {H : Type} {enc : TypeId × Value → H} {W : World} {base b0 : Nat} {r : Reach} {held : Bool} {v : Value} {d : DataW H} {ps : List MemPlace} (hv : Value.okWide Tryz.prog W r b0 24 v)
    (h : DataW.Trod enc Tryz.prog W base (fun _ => true) held 24 v d ps) :
    ∃ (i : It) (a : Option Addr) (c : Nat), v = .agg #[.int .i64 i.k, .string i.t, .slice a i.l.length c] ∧ i.l.length ≤ c ∧ c ≤ 9223372036854775807 ∧ InF W a i.l := by
  obtain ⟨fuel, hf⟩ := h
  obtain ⟨cs, rfl, -⟩ := okWide_struct Tryz.underlying24 hv
  obtain ⟨y0, y1, y2, n, -, hlen, h0, h1, h2⟩ := Go.Deep.trod_struct3 Tryz.underlying24 hf
  rw [k_it] at hlen
  have hcl : cs.toList.length = 3 := hlen
  obtain ⟨cl⟩ := cs
  match cl, hcl with
  | [c0, c1, c2], _ =>
    have h0 : DataW.trod enc Tryz.prog W base (fun _ => true) held n 3 (List.take (Tryz.prog.cellsOf 3) [c0, c1, c2]) = some y0 := h0
    rw [k_int] at h0
    have h1 : DataW.trod enc Tryz.prog W base (fun _ => true) held n 9 (List.take (Tryz.prog.cellsOf 9) [c1, c2]) = some y1 := h1
    rw [k_str] at h1
    have h2 : DataW.trod enc Tryz.prog W base (fun _ => true) held n 22 (List.take (Tryz.prog.cellsOf 22) [c2]) = some y2 := h2
    rw [k_fds] at h2
    obtain ⟨k, e0, -, -⟩ := DataW.trod_int Tryz.underlying3 h0
    obtain ⟨t, e1, -, -⟩ := DataW.trod_string Tryz.underlying9 h1
    obtain ⟨a, c, l, e2, g1, g2, g3⟩ := open_list n _ _ h2
    injection e0 with e0 _
    injection e1 with e1 _
    injection e2 with e2 _
    subst e0 e1 e2
    exact ⟨⟨k, t, l⟩, a, c, rfl, g1, g2, g3⟩
set_option maxRecDepth 100000 in
theorem open_field {H : Type} {enc : TypeId × Value → H} {W : World} {base b0 : Nat} {r : Reach} {held : Bool} {v : Value} {d : DataW H} {ps : List MemPlace} (hv : Value.okWide Tryz.prog W r b0 44 v)
    (h : DataW.Trod enc Tryz.prog W base (fun _ => true) held 44 v d ps) : ∃ q : Ia.Fd, v = .agg #[.string q.1, .string q.2] := by
  obtain ⟨fuel, hf⟩ := h
  obtain ⟨cs, rfl, -⟩ := okWide_struct Tryz.underlying44 hv
  obtain ⟨q, e⟩ := open_fd fuel _ _ hf
  refine ⟨q, ?_⟩
  have e2 : cs.toList = [.string q.1, .string q.2] := e
  have : cs = #[.string q.1, .string q.2] := by rw [← Array.toList_inj]; exact e2
  rw [this]
set_option maxRecDepth 100000 in
theorem open_fields {H : Type} {enc : TypeId × Value → H} {W : World} {base b0 : Nat} {r : Reach} {held : Bool} {v : Value} {d : DataW H} {ps : List MemPlace} (hv : Value.okWide Tryz.prog W r b0 22 v)
    (h : DataW.Trod enc Tryz.prog W base (fun _ => true) held 22 v d ps) :
    ∃ (a : Option Addr) (c : Nat) (l : List Ia.Fd), v = .slice a l.length c ∧ l.length ≤ c ∧ c ≤ 9223372036854775807 ∧ InF W a l := by
  obtain ⟨fuel, hf⟩ := h
  obtain ⟨a, len, cap, rfl⟩ := okWide_slice Tryz.underlying22 hv
  obtain ⟨a', c, l, e, g⟩ := open_list fuel _ _ hf
  have e : [Value.slice a len cap] = [.slice a' l.length c] := e
  injection e with e _
  exact ⟨a', c, l, e, g⟩
end Go.Proofs.YtfljonmfkjblhaaGreatDoor.Im
