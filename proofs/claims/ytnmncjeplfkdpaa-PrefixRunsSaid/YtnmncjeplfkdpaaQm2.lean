/- Arguments of type []Act, opened; their texts within the reach. No condition. -/
import Derived.Test.YtnmncjeplfkdpaaKm1
import Derived.Test.YtnmncjeplfkdpaaQrB
import Derived.Deep.Slices
import Derived.Deep.Fields
import Derived.Deep.Strs
import Derived.SizedLaws
import Derived.Lib.LaidU8
namespace Go.Proofs.Ytnmncjeplfkdpaa.Km
open Go.ChangeShapes Go.WideShapes Go.ChangeAt Go.RowKit
open Go.Proofs.Ytnmncjeplfkdpaa.Qa
theorem k_int : Try.prog.cellsOf 3 = 1 := by kernel_rfl
theorem k_str : Try.prog.cellsOf 9 = 1 := by kernel_rfl
theorem k_act : Try.prog.cellsOf 28 = 3 := by kernel_rfl
set_option maxRecDepth 100000 in
theorem open_act {H : Type} {enc : TypeId × Value → H} {W : World} {base : Nat} {held : Bool} (fuel : Nat) (cs : List Value) (x : DataW H × List MemPlace) (h : DataW.trod enc Try.prog W base (fun _ => true) held fuel 28 cs = some x) :
    ∃ q : Ac, cs = [.int .i64 q.kd, .int .i64 q.n, .string q.k] ∧ okAc q := by
  obtain ⟨y0, y1, y2, n, rfl, hlen, h0, h1, h2⟩ := Go.Deep.trod_struct3 Try.underlying28 h
  rw [k_act] at hlen
  match cs, hlen with
  | [c0, c1, c2], _ =>
    have h0 : DataW.trod enc Try.prog W base (fun _ => true) held n 3 (List.take (Try.prog.cellsOf 3) [c0, c1, c2]) = some y0 := h0
    rw [k_int] at h0
    have h1 : DataW.trod enc Try.prog W base (fun _ => true) held n 3 (List.take (Try.prog.cellsOf 3) [c1, c2]) = some y1 := h1
    rw [k_int] at h1
    have h2 : DataW.trod enc Try.prog W base (fun _ => true) held n 9 (List.take (Try.prog.cellsOf 9) [c2]) = some y2 := h2
    rw [k_str] at h2
    obtain ⟨k, e0, -, -⟩ := DataW.trod_int Try.underlying3 h0
    obtain ⟨t, e1, -, ht⟩ := DataW.trod_int Try.underlying3 h1
    obtain ⟨u, e2, -, hs⟩ := DataW.trod_string Try.underlying9 h2
    injection e0 with e0 _
    injection e1 with e1 _
    injection e2 with e2 _
    exact ⟨⟨k, t, u⟩, by rw [e0, e1, e2], hs, ht⟩
set_option maxRecDepth 100000 in
theorem open_actsA {H : Type} {enc : TypeId × Value → H} {W : World} {base b0 : Nat} {r : Reach} {held : Bool} {v : Value} {d : DataW H} {ps : List MemPlace} (hv : Value.okWide Try.prog W r b0 22 v)
    (h : DataW.Trod enc Try.prog W base (fun _ => true) held 22 v d ps) :
    ∃ (a : Option Addr) (c : Nat) (l : List Ac), v = .slice a l.length c ∧ InA W a l ∧ ∀ i (h : i < l.length), okAc l[i] := by
  obtain ⟨fuel, h⟩ := h
  obtain ⟨a0, len0, cap0, rfl⟩ := okWide_slice Try.underlying22 hv
  rcases DataW.trod_slice Try.underlying22 h with ⟨e, -⟩ | ⟨a, len, cap, elems, rest, n, hf, e, hx, hb, hl, hm, hlen, hel, hsp, -⟩
  · have e : [Value.slice a0 len0 cap0] = [.slice none 0 0] := e
    injection e with e _
    injection e with e1 e2 e3
    subst e1 e2 e3
    exact ⟨none, 0, [], rfl, fun h => absurd h (Nat.lt_irrefl _), fun i h => absurd h (Nat.not_lt_zero _)⟩
  · have e : [Value.slice a0 len0 cap0] = [.slice (some a) len cap] := e
    injection e with e _
    injection e with e1 e2 e3
    subst e1 e2 e3
    have hkid : ∀ i, i < len0 → ∃ q : Ac, (∀ j, j < 3 → W.cell? (a.add (i * 3 + j)) = [Value.int .i64 q.kd, .int .i64 q.n, .string q.k][j]?) ∧ okAc q := by
      intro i hi
      have he := hel i hi
      rw [k_act, List.getElem?_eq_getElem (by omega)] at he
      cases hc : W.cells? base (a.add (i * 3)) 3 with
      | none => rw [hc] at he; cases he
      | some cs' =>
        rw [hc] at he
        obtain ⟨q, rfl, hs⟩ := open_act n _ _ he
        obtain ⟨-, -, hat⟩ := World.cells?_some hc
        exact ⟨q, fun j hj => by rw [← Go.Deep.add_add, hat j hj], hs⟩
    haveI : Inhabited Ac := ⟨⟨0, 0, ⟨#[]⟩⟩⟩
    obtain ⟨K, hK⟩ := Go.Deep.choose_lt hkid
    have hwl : ((List.range len0).map K).length = len0 := by simp
    have eg : ∀ i (h : i < ((List.range len0).map K).length), ((List.range len0).map K)[i] = K i := fun i h => by simp
    refine ⟨some a, cap0, (List.range len0).map K, by rw [hwl], fun hp => ?_, fun i hi => by rw [eg]; exact (hK i (by rw [hwl] at hi; exact hi)).2⟩
    rw [hwl] at hp
    obtain ⟨b, o, sp⟩ := a
    have h0 : W.cell? ⟨b, o + (0 * 3 + 0), sp⟩ = some (.int .i64 (K 0).kd) := (hK 0 hp).1 0 (by omega)
    have hs := cell_spot h0
    subst hs
    refine ⟨b, o, rfl, World.block_lt_of_cell? W _ h0, fun i hi => ?_⟩
    rw [eg]
    rw [hwl] at hi
    have e : ∀ q, (Addr.add ⟨b, o, none⟩ (i * 3 + q)) = ⟨b, o + i * 3 + q, none⟩ := fun q => by rw [Addr.add_lit, Nat.add_assoc]
    exact ⟨by rw [← Nat.add_zero (o + i * 3), ← e 0]; exact (hK i hi).1 0 (by omega), by rw [← e 1]; exact (hK i hi).1 1 (by omega), by rw [← e 2]; exact (hK i hi).1 2 (by omega)⟩
theorem mem_all {H : Type} {P : Program} {e : TypeId} : ∀ {l : List (DataW H)} {i : Nat} {d : DataW H}, l[i]? = some d → ∀ m ∈ d.weights P e, m ∈ DataW.weightsAll P e l
  | d0 :: l, 0, d, hd, m, hm => by
    simp only [List.getElem?_cons_zero, Option.some.injEq] at hd
    subst hd
    simp only [DataW.weightsAll, List.mem_append]
    exact .inl hm
  | d0 :: l, i + 1, d, hd, m, hm => by
    simp only [List.getElem?_cons_succ] at hd
    simp only [DataW.weightsAll, List.mem_append]
    exact .inr (mem_all hd m hm)
  | [], _, _, hd, _, _ => by simp at hd
/-- .. and its text within the reach. -/
def okAcW (q : Ac) : Prop := okAc q ∧ q.k.size ≤ reachBytes
set_option maxRecDepth 100000 in
theorem open_actW {H : Type} {enc : TypeId × Value → H} {W : World} {base : Nat} {held : Bool} (fuel : Nat) (cs : List Value) (x : DataW H × List MemPlace) (h : DataW.trod enc Try.prog W base (fun _ => true) held fuel 28 cs = some x) (hw : ∀ q ∈ x.1.weights Try.prog 28, q ≤ reachBytes) :
    ∃ q : Ac, cs = [.int .i64 q.kd, .int .i64 q.n, .string q.k] ∧ okAcW q := by
  obtain ⟨y0, y1, y2, n, rfl, hlen, h0, h1, h2⟩ := Go.Deep.trod_struct3 Try.underlying28 h
  rw [k_act] at hlen
  match cs, hlen with
  | [c0, c1, c2], _ =>
    have h0 : DataW.trod enc Try.prog W base (fun _ => true) held n 3 (List.take (Try.prog.cellsOf 3) [c0, c1, c2]) = some y0 := h0
    rw [k_int] at h0
    have h1 : DataW.trod enc Try.prog W base (fun _ => true) held n 3 (List.take (Try.prog.cellsOf 3) [c1, c2]) = some y1 := h1
    rw [k_int] at h1
    have h2 : DataW.trod enc Try.prog W base (fun _ => true) held n 9 (List.take (Try.prog.cellsOf 9) [c2]) = some y2 := h2
    rw [k_str] at h2
    obtain ⟨k, e0, -, -⟩ := DataW.trod_int Try.underlying3 h0
    obtain ⟨t, e1, -, ht⟩ := DataW.trod_int Try.underlying3 h1
    obtain ⟨u, e2, hy2, hs⟩ := DataW.trod_string Try.underlying9 h2
    have hwe : ∀ q ∈ DataW.weightsEach Try.prog [3, 3, 9] [y0.1, y1.1, y2.1], q ≤ reachBytes := fun q hq => hw q (by
      simp only [DataW.weights, Try.underlying28]
      exact hq)
    have hts : u.size ≤ reachBytes := hwe u.size (DataW.weights_mem_each (j := 2) rfl rfl u.size (by rw [hy2]; simp only [DataW.weights]; exact List.mem_singleton.2 Array.length_toList.symm))
    injection e0 with e0 _
    injection e1 with e1 _
    injection e2 with e2 _
    exact ⟨⟨k, t, u⟩, by rw [e0, e1, e2], ⟨hs, ht⟩, hts⟩
set_option maxRecDepth 100000 in
theorem open_actsW {H : Type} {enc : TypeId × Value → H} {W : World} {base b0 : Nat} {r : Reach} {held : Bool} {v : Value} {d : DataW H} {ps : List MemPlace} (hv : Value.okWide Try.prog W r b0 22 v)
    (h : DataW.Trod enc Try.prog W base (fun _ => true) held 22 v d ps) (hw : ∀ q ∈ d.weights Try.prog 22, q ≤ reachBytes) :
    ∃ (a : Option Addr) (c : Nat) (l : List Ac), v = .slice a l.length c ∧ InA W a l ∧ (∀ i (h : i < l.length), okAc l[i]) ∧ ∀ i (h : i < l.length), l[i].k.size ≤ 140737488351232 := by
  obtain ⟨fuel, h⟩ := h
  obtain ⟨a0, len0, cap0, rfl⟩ := okWide_slice Try.underlying22 hv
  rcases DataW.trod_slice Try.underlying22 h with ⟨e, -⟩ | ⟨a, len, cap, elems, rest, n, hf, e, hx, hb, hl, hm, hlen, hel, hsp, -⟩
  · have e : [Value.slice a0 len0 cap0] = [.slice none 0 0] := e
    injection e with e _
    injection e with e1 e2 e3
    subst e1 e2 e3
    exact ⟨none, 0, [], rfl, fun h => absurd h (Nat.lt_irrefl _), fun i h => absurd h (Nat.not_lt_zero _), fun i h => absurd h (Nat.not_lt_zero _)⟩
  · obtain ⟨rfl, rfl⟩ := Prod.mk.inj hx
    have e : [Value.slice a0 len0 cap0] = [.slice (some a) len cap] := e
    injection e with e _
    injection e with e1 e2 e3
    subst e1 e2 e3
    have hkid : ∀ i, i < len0 → ∃ q : Ac, (∀ j, j < 3 → W.cell? (a.add (i * 3 + j)) = [Value.int .i64 q.kd, .int .i64 q.n, .string q.k][j]?) ∧ okAcW q := by
      intro i hi
      have he := hel i hi
      rw [k_act, List.getElem?_eq_getElem (by omega)] at he
      cases hc : W.cells? base (a.add (i * 3)) 3 with
      | none => rw [hc] at he; cases he
      | some cs' =>
        rw [hc] at he
        obtain ⟨q, rfl, hs⟩ := open_actW n _ _ he (fun q hq => hw q (by
          simp only [DataW.weights, Try.underlying22]
          refine List.mem_cons_of_mem _ (List.mem_append.2 (.inl ?_))
          exact mem_all (i := i) (d := (elems[i]'(by omega)).1) (by rw [List.getElem?_map, List.getElem?_eq_getElem (by omega)]; rfl) q hq))
        obtain ⟨-, -, hat⟩ := World.cells?_some hc
        exact ⟨q, fun j hj => by rw [← Go.Deep.add_add, hat j hj], hs⟩
    haveI : Inhabited Ac := ⟨⟨0, 0, ⟨#[]⟩⟩⟩
    obtain ⟨K, hK⟩ := Go.Deep.choose_lt hkid
    have hwl : ((List.range len0).map K).length = len0 := by simp
    have eg : ∀ i (h : i < ((List.range len0).map K).length), ((List.range len0).map K)[i] = K i := fun i h => by simp
    refine ⟨some a, cap0, (List.range len0).map K, by rw [hwl], fun hp => ?_, fun i hi => by rw [eg]; exact (hK i (by rw [hwl] at hi; exact hi)).2.1, fun i hi => by rw [eg]; exact (hK i (by rw [hwl] at hi; exact hi)).2.2⟩
    rw [hwl] at hp
    obtain ⟨b, o, sp⟩ := a
    have h0 : W.cell? ⟨b, o + (0 * 3 + 0), sp⟩ = some (.int .i64 (K 0).kd) := (hK 0 hp).1 0 (by omega)
    have hs := cell_spot h0
    subst hs
    refine ⟨b, o, rfl, World.block_lt_of_cell? W _ h0, fun i hi => ?_⟩
    rw [eg]
    rw [hwl] at hi
    have e : ∀ q, (Addr.add ⟨b, o, none⟩ (i * 3 + q)) = ⟨b, o + i * 3 + q, none⟩ := fun q => by rw [Addr.add_lit, Nat.add_assoc]
    exact ⟨by rw [← Nat.add_zero (o + i * 3), ← e 0]; exact (hK i hi).1 0 (by omega), by rw [← e 1]; exact (hK i hi).1 1 (by omega), by rw [← e 2]; exact (hK i hi).1 2 (by omega)⟩
end Go.Proofs.Ytnmncjeplfkdpaa.Km
