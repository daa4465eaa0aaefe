/- Arguments of the types []string and api.Mode, opened. No condition. -/
import Derived.Test.YtjpbpdjomfkkeaaGreatDoorJm1
import Derived.Test.YtjpbpdjomfkkeaaGreatDoorMb1
import Derived.Deep.Slices
import Derived.Deep.Fields
import Derived.Deep.Strs
import Derived.SizedLaws
namespace Go.Proofs.YtjpbpdjomfkkeaaGreatDoor.Jm
open Go.ChangeShapes Go.WideShapes Go.ChangeAt Go.RowKit
open Go.Proofs.YtjpbpdjomfkkeaaGreatDoor.Ma
theorem k_str : Tryz.prog.cellsOf 9 = 1 := by kernel_rfl
theorem k_bool : Tryz.prog.cellsOf 4 = 1 := by kernel_rfl
theorem k_int : Tryz.prog.cellsOf 3 = 1 := by kernel_rfl
theorem k_strs : Tryz.prog.cellsOf 22 = 1 := by kernel_rfl
theorem k_mode : Tryz.prog.cellsOf 24 = 7 := by kernel_rfl
set_option maxRecDepth 100000 in
theorem open_list {H : Type} {enc : TypeId × Value → H} {W : World} {base : Nat} {held : Bool} (fuel : Nat) (cs : List Value) (x : DataW H × List MemPlace) (h : DataW.trod enc Tryz.prog W base (fun _ => true) held fuel 22 cs = some x) :
    ∃ (a : Option Addr) (c : Nat) (l : List BA), cs = [.slice a l.length c] ∧ l.length ≤ c ∧ c ≤ 9223372036854775807 ∧ (a = none → c = 0) ∧ InS W a l := by
  rcases DataW.trod_slice Tryz.underlying22 h with ⟨rfl, -⟩ | ⟨a, len, cap, elems, rest, n, hf, rfl, hx, hb, hl, hm, hlen, hel, hsp, -⟩
  · exact ⟨none, 0, [], rfl, Nat.zero_le _, Nat.zero_le _, fun _ => rfl, InS.nil _ _⟩
  · have hkid : ∀ i, i < len → ∃ t : ByteArray, W.cell? (a.add i) = some (.string t) := by
      intro i hi
      have he := hel i hi
      rw [k_str, List.getElem?_eq_getElem (by omega), Nat.mul_one] at he
      cases hc : W.cells? base (a.add i) 1 with
      | none => rw [hc] at he; cases he
      | some cs' =>
        rw [hc] at he
        obtain ⟨t, rfl, -, -⟩ := DataW.trod_string Tryz.underlying9 he
        obtain ⟨-, -, hat⟩ := World.cells?_some hc
        have h0 := hat 0 (by omega)
        rw [Go.Deep.add_add] at h0
        exact ⟨t, by simpa using h0⟩
    haveI : Inhabited ByteArray := ⟨⟨#[]⟩⟩
    obtain ⟨K, hK⟩ := Go.Deep.choose_lt hkid
    have hwl : ((List.range len).map K).length = len := by simp
    refine ⟨some a, cap, (List.range len).map K, by rw [hwl], by rw [hwl]; exact hl, by unfold maxLen at hm; omega, (fun h => by cases h), fun hp => ?_⟩
    rw [hwl] at hp
    obtain ⟨b, o, sp⟩ := a
    have h0 : W.cell? ⟨b, o + 0, sp⟩ = some (.string (K 0)) := hK 0 hp
    have hs := cell_spot h0
    subst hs
    refine ⟨b, o, rfl, World.block_lt_of_cell? W _ h0, fun i hi => ?_⟩
    rw [hwl] at hi
    have hc := hK i hi
    rw [Addr.add_lit] at hc
    have eg : ((List.range len).map K)[i]'(by rw [hwl]; exact hi) = K i := by simp
    rw [eg]
    exact hc
set_option maxRecDepth 100000 in
theorem open_strsM {H : Type} {enc : TypeId × Value → H} {W : World} {base b0 : Nat} {r : Reach} {held : Bool} {v : Value} {d : DataW H} {ps : List MemPlace} (hv : Value.okWide Tryz.prog W r b0 22 v)
    (h : DataW.Trod enc Tryz.prog W base (fun _ => true) held 22 v d ps) :
    ∃ (a : Option Addr) (c : Nat) (l : List BA), v = .slice a l.length c ∧ l.length ≤ c ∧ c ≤ 9223372036854775807 ∧ (a = none → c = 0) ∧ InS W a l := by
  obtain ⟨fuel, hf⟩ := h
  obtain ⟨a, len, cap, rfl⟩ := okWide_slice Tryz.underlying22 hv
  obtain ⟨a', c, l, e, g⟩ := open_list fuel _ _ hf
  have e : [Value.slice a len cap] = [.slice a' l.length c] := e
  injection e with e _
  exact ⟨a', c, l, e, g⟩
set_option maxRecDepth 100000 in
theorem open_modeM {H : Type} {enc : TypeId × Value → H} {W : World} {base bb : Nat} {r : Reach} {held : Bool} {v : Value} {d : DataW H} {ps : List MemPlace} (hv : Value.okWide Tryz.prog W r bb 24 v)
    (h : DataW.Trod enc Tryz.prog W base (fun _ => true) held 24 v d ps) :
    ∃ (m : Md) (a : Option Addr) (c : Nat), v = mV m a c ∧ m.ps.length ≤ c ∧ c ≤ 9223372036854775807 ∧ (a = none → c = 0) ∧ InS W a m.ps := by
  obtain ⟨fuel, hf⟩ := h
  obtain ⟨cs, rfl, -⟩ := okWide_struct Tryz.underlying24 hv
  obtain ⟨xs, n, -, -, hlen, hxl, hall⟩ := DataW.trod_struct Tryz.underlying24 hf
  rw [k_mode] at hlen
  have hcl : cs.toList.length = 7 := hlen
  obtain ⟨cl⟩ := cs
  match cl, hcl with
  | [c0, c1, c2, c3, c4, c5, c6], _ =>
    match xs, hxl with
    | [y0, y1, y2, y3, y4, y5, y6], _ =>
      have h0 : DataW.trod enc Tryz.prog W base (fun _ => true) held n 4 (List.take (Tryz.prog.cellsOf 4) [c0, c1, c2, c3, c4, c5, c6]) = some y0 := hall 0 _ rfl
      rw [k_bool] at h0
      have h1 : DataW.trod enc Tryz.prog W base (fun _ => true) held n 4 (List.take (Tryz.prog.cellsOf 4) [c1, c2, c3, c4, c5, c6]) = some y1 := hall 1 _ rfl
      rw [k_bool] at h1
      have h2 : DataW.trod enc Tryz.prog W base (fun _ => true) held n 4 (List.take (Tryz.prog.cellsOf 4) [c2, c3, c4, c5, c6]) = some y2 := hall 2 _ rfl
      rw [k_bool] at h2
      have h3 : DataW.trod enc Tryz.prog W base (fun _ => true) held n 4 (List.take (Tryz.prog.cellsOf 4) [c3, c4, c5, c6]) = some y3 := hall 3 _ rfl
      rw [k_bool] at h3
      have h4 : DataW.trod enc Tryz.prog W base (fun _ => true) held n 4 (List.take (Tryz.prog.cellsOf 4) [c4, c5, c6]) = some y4 := hall 4 _ rfl
      rw [k_bool] at h4
      have h5 : DataW.trod enc Tryz.prog W base (fun _ => true) held n 3 (List.take (Tryz.prog.cellsOf 3) [c5, c6]) = some y5 := hall 5 _ rfl
      rw [k_int] at h5
      have h6 : DataW.trod enc Tryz.prog W base (fun _ => true) held n 22 (List.take (Tryz.prog.cellsOf 22) [c6]) = some y6 := hall 6 _ rfl
      rw [k_strs] at h6
      obtain ⟨b0, e0, -⟩ := DataW.trod_bool Tryz.underlying4 h0
      obtain ⟨b1, e1, -⟩ := DataW.trod_bool Tryz.underlying4 h1
      obtain ⟨b2, e2, -⟩ := DataW.trod_bool Tryz.underlying4 h2
      obtain ⟨b3, e3, -⟩ := DataW.trod_bool Tryz.underlying4 h3
      obtain ⟨b4, e4, -⟩ := DataW.trod_bool Tryz.underlying4 h4
      obtain ⟨k, e5, -, -⟩ := DataW.trod_int Tryz.underlying3 h5
      obtain ⟨a, c, l, e6, g⟩ := open_list n _ _ h6
      injection e0 with e0 _
      injection e1 with e1 _
      injection e2 with e2 _
      injection e3 with e3 _
      injection e4 with e4 _
      injection e5 with e5 _
      injection e6 with e6 _
      subst e0 e1 e2 e3 e4 e5 e6
      exact ⟨⟨b0, b1, b2, b3, b4, k, l⟩, a, c, rfl, g⟩
end Go.Proofs.YtjpbpdjomfkkeaaGreatDoor.Jm
