/- An argument of type api.Value, and one of []api.Value, as a plain tree that lies in memory. No condition: every reading is one. -/
import Derived.Test.YtlebpaneignfaaaDoorVa1
import Derived.Deep.Slices
import Derived.Deep.Fields
import Derived.SizedLaws
import Derived.Lib.LaidU8
namespace Go.Proofs.YtlebpaneignfaaaDoor
open Go.ChangeShapes Go.WideShapes Go.ChangeAt Go.RowKit

theorem k_int : Tryd.prog.cellsOf 3 = 1 := by kernel_rfl
theorem k_str : Tryd.prog.cellsOf 9 = 1 := by kernel_rfl
theorem k_i64 : Tryd.prog.cellsOf 2 = 1 := by kernel_rfl
theorem k_flt : Tryd.prog.cellsOf 23 = 1 := by kernel_rfl
theorem k_bool : Tryd.prog.cellsOf 4 = 1 := by kernel_rfl
theorem k_list : Tryd.prog.cellsOf 24 = 1 := by kernel_rfl
theorem k_val : Tryd.prog.cellsOf 26 = 6 := by kernel_rfl
theorem k_bytes : Tryd.prog.bytesOf 26 = 72 := by kernel_rfl
theorem vint_bounds {n : Int} (h : (Lit.int .i64 n).wf = true) : -9223372036854775808 ≤ n ∧ n ≤ 9223372036854775807 := by
  have e1 : IntKind.i64.min = -9223372036854775808 := rfl
  have e2 : IntKind.i64.max = 9223372036854775807 := rfl
  simpa [Lit.wf, e1, e2] using h
theorem trod_float {H : Type} {enc : TypeId × Value → H} {P : Program} {w : World} {base : Nat} {spare : Nat → Bool} {held : Bool} {fuel : Nat} {t : TypeId} {cs : List Value} {x : DataW H × List MemPlace} {k : FloatKind}
    (ht : P.underlying t = some (.float k)) (h : DataW.trod enc P w base spare held fuel t cs = some x) : ∃ n, cs = [.float k n] ∧ x = (.lit (.float k n), []) ∧ (Lit.float k n).wf = true := by
  cases fuel with
  | zero => simp [DataW.trod] at h
  | succ n =>
    unfold DataW.trod at h
    rw [ht] at h
    split at h <;> simp_all
theorem flt_bound {n : Nat} (h : (Lit.float .f64 n).wf = true) : n < 18446744073709551616 := by
  simpa [Lit.wf] using h
theorem mem_all {H : Type} {P : Program} {e : TypeId} : ∀ {l : List (DataW H)} {i : Nat} {d : DataW H}, l[i]? = some d → ∀ m ∈ d.weights P e, m ∈ DataW.weightsAll P e l
  | d0 :: l, 0, d, hd, m, hm => by
    simp only [List.getElem?_cons_zero, Option.some.injEq] at hd
    subst hd
    simp only [DataW.weightsAll, List.mem_append]
    exact .inl hm
  | d0 :: l, i + 1, d, hd, m, hm => by
    simp only [List.getElem?_cons_succ] at hd
    simp only [DataW.weightsAll, List.mem_append]
    exact .inr (mem_all hd m hm)
  | [], _, _, hd, _, _ => by simp at hd
/-- No text is longer than the reach. -/
def Val.slim : Val → Prop
  | .no => True
  | .mk _ t _ _ _ _ _ n K => t.size ≤ 140737488351232 ∧ ∀ i, i < n → (K i).slim
/-- A list that can be read: where it lies, and what is in it. -/
def ListIs (W : World) (cs : List Value) (P : Nat → Val → Prop) : Prop :=
  ∃ (a : Option Addr) (c n : Nat) (K : Nat → Val), cs = [.slice a n c] ∧ n ≤ c ∧ (c ≤ 9223372036854775807 ∧ n * 72 ≤ 281474976710656) ∧ (0 < n → ∃ b o, a = some ⟨b, o, none⟩ ∧ b < W.heap.size) ∧
    ∀ i, i < n → (∀ b o, a = some ⟨b, o, none⟩ → At W b (o + i * 6) (K i)) ∧ P i (K i)

theorem open_list {H : Type} {enc : TypeId × Value → H} {W : World} {base : Nat} {held : Bool} (fuel : Nat)
    (ih : ∀ m, m < fuel → ∀ (cs : List Value) (x : DataW H × List MemPlace), DataW.trod enc Tryd.prog W base (fun _ => true) held m 26 cs = some x → (∀ q ∈ x.1.weights Tryd.prog 26, q ≤ reachBytes) →
      ∃ v, cs = v.agg.cells.toList ∧ Lies (fun b => b < W.heap.size) W v ∧ v.slim)
    (cs : List Value) (x : DataW H × List MemPlace) (h : DataW.trod enc Tryd.prog W base (fun _ => true) held fuel 24 cs = some x) (hw : ∀ q ∈ x.1.weights Tryd.prog 24, q ≤ reachBytes) :
    ListIs W cs fun _ v => Lies (fun b => b < W.heap.size) W v ∧ v.slim := by
  rcases DataW.trod_slice Tryd.underlying24 h with ⟨rfl, -⟩ | ⟨a, len, cap, elems, rest, n, hf, rfl, hx, hb, hl, hm, hlen, hel, hsp, -⟩
  · exact ⟨none, 0, 0, fun _ => .no, rfl, Nat.le_refl _, ⟨by omega, by omega⟩, fun h => absurd h (by omega), fun i hi => absurd hi (by omega)⟩
  · subst hx
    obtain ⟨hrl, -⟩ := hsp rfl
    have hbytes : (elems.length + rest.length) * 72 ≤ reachBytes := by
      refine hw _ ?_
      simp only [DataW.weights, Tryd.underlying24, k_bytes, List.length_map]
      exact List.mem_cons_self ..
    have hr : reachBytes = 140737488351232 := rfl
    rw [hr] at hbytes
    have hkid : ∀ i, i < len → ∃ v, (∀ q, q < 6 → W.cell? (a.add (i * 6 + q)) = v.agg.cells.toList[q]?) ∧ Lies (fun b => b < W.heap.size) W v ∧ v.slim := by
      intro i hi
      have he := hel i hi
      rw [k_val, List.getElem?_eq_getElem (by omega)] at he
      cases hc : W.cells? base (a.add (i * 6)) 6 with
      | none => rw [hc] at he; cases he
      | some cs' =>
        rw [hc] at he
        obtain ⟨v, hv, hL⟩ := ih n (by omega) cs' _ he fun q hq => hw q (by
          simp only [DataW.weights, Tryd.underlying24]
          refine List.mem_cons_of_mem _ (List.mem_append.2 (.inl ?_))
          exact mem_all (i := i) (d := (elems[i]'(by omega)).1) (by rw [List.getElem?_map, List.getElem?_eq_getElem (by omega)]; rfl) q hq)
        obtain ⟨-, -, hat⟩ := World.cells?_some hc
        refine ⟨v, fun q hq => ?_, hL⟩
        rw [← Go.Deep.add_add, hat q hq, hv]
    obtain ⟨b, o, sp⟩ := a
    haveI : Inhabited Val := ⟨.no⟩
    obtain ⟨K, hK⟩ := Go.Deep.choose_lt hkid
    have hspot : 0 < len → sp = none ∧ b < W.heap.size := fun hp => by
      obtain ⟨h1, h2, -⟩ := hK 0 hp
      have h0 := h1 0 (by omega)
      cases hv : K 0 with
      | no => rw [hv] at h2; exact h2.elim
      | mk k t z r f a' c n' K' =>
        rw [hv] at h0
        have h0 : W.cell? ⟨b, o + (0 * 6 + 0), sp⟩ = some (.int .i64 k) := h0
        exact ⟨cell_spot h0, World.block_lt_of_cell? W _ h0⟩
    refine ⟨some ⟨b, o, sp⟩, cap, len, K, rfl, hl, ⟨by omega, by omega⟩, fun hp => ?_, fun i hi => ⟨fun b2 o2 e => ?_, (hK i hi).2⟩⟩
    · obtain ⟨rfl, hlt⟩ := hspot hp
      exact ⟨b, o, rfl, hlt⟩
    · injection e with e
      injection e with e1 e2 e3
      subst e1 e2 e3
      obtain ⟨h1, h2, -⟩ := hK i hi
      cases hv : K i with
      | no => rw [hv] at h2; exact h2.elim
      | mk k t z r f a' c n' K' =>
        rw [hv] at h1
        have e : ∀ q, (Addr.add ⟨b, o, none⟩ (i * 6 + q)) = ⟨b, o + i * 6 + q, none⟩ := fun q => by rw [Addr.add_lit, Nat.add_assoc]
        exact ⟨by rw [← Nat.add_zero (o + i * 6), ← e 0]; exact h1 0 (by omega), by rw [← e 1]; exact h1 1 (by omega), by rw [← e 2]; exact h1 2 (by omega), by rw [← e 3]; exact h1 3 (by omega), by rw [← e 4]; exact h1 4 (by omega), by rw [← e 5]; exact h1 5 (by omega)⟩

set_option maxRecDepth 100000 in
theorem open_val {H : Type} {enc : TypeId × Value → H} {W : World} {base : Nat} {held : Bool} : ∀ (fuel : Nat) (cs : List Value) (x : DataW H × List MemPlace), DataW.trod enc Tryd.prog W base (fun _ => true) held fuel 26 cs = some x →
    (∀ q ∈ x.1.weights Tryd.prog 26, q ≤ reachBytes) → ∃ v, cs = v.agg.cells.toList ∧ Lies (fun b => b < W.heap.size) W v ∧ v.slim := by
  intro fuel
  induction fuel using Nat.strongRecOn with
  | ind fuel ih =>
    intro cs x h hw
    obtain ⟨xs, n, hf, hx, hlen, hxl, hall⟩ := DataW.trod_struct Tryd.underlying26 h
    subst hx
    rw [k_val] at hlen
    match cs, hlen with
    | [c0, c1, c2, c3, c4, c5], _ =>
      match xs, hxl with
      | [y0, y1, y2, y3, y4, y5], _ =>
        have h0 : DataW.trod enc Tryd.prog W base (fun _ => true) held n 3 (List.take (Tryd.prog.cellsOf 3) [c0, c1, c2, c3, c4, c5]) = some y0 := hall 0 _ rfl
        rw [k_int] at h0
        have h1 : DataW.trod enc Tryd.prog W base (fun _ => true) held n 9 (List.take (Tryd.prog.cellsOf 9) [c1, c2, c3, c4, c5]) = some y1 := hall 1 _ rfl
        rw [k_str] at h1
        have h2 : DataW.trod enc Tryd.prog W base (fun _ => true) held n 2 (List.take (Tryd.prog.cellsOf 2) [c2, c3, c4, c5]) = some y2 := hall 2 _ rfl
        rw [k_i64] at h2
        have h3 : DataW.trod enc Tryd.prog W base (fun _ => true) held n 23 (List.take (Tryd.prog.cellsOf 23) [c3, c4, c5]) = some y3 := hall 3 _ rfl
        rw [k_flt] at h3
        have h4 : DataW.trod enc Tryd.prog W base (fun _ => true) held n 4 (List.take (Tryd.prog.cellsOf 4) [c4, c5]) = some y4 := hall 4 _ rfl
        rw [k_bool] at h4
        have h5 : DataW.trod enc Tryd.prog W base (fun _ => true) held n 24 (List.take (Tryd.prog.cellsOf 24) [c5]) = some y5 := hall 5 _ rfl
        rw [k_list] at h5
        obtain ⟨k, e0, -, w0⟩ := DataW.trod_int Tryd.underlying3 h0
        obtain ⟨t, e1, hy1, w1⟩ := DataW.trod_string Tryd.underlying9 h1
        obtain ⟨z, e2, -, w2⟩ := DataW.trod_int Tryd.underlying2 h2
        obtain ⟨r, e3, -, w3⟩ := trod_float Tryd.underlying23 h3
        obtain ⟨f, e4, -⟩ := DataW.trod_bool Tryd.underlying4 h4
        have hwe : ∀ q ∈ DataW.weightsEach Tryd.prog [3, 9, 2, 23, 4, 24] [y0.1, y1.1, y2.1, y3.1, y4.1, y5.1], q ≤ reachBytes := fun q hq => hw q (by
          simp only [DataW.weights, Tryd.underlying26]
          exact hq)
        obtain ⟨a, c, n2, K, e5, g1, g2, g3, g4⟩ := open_list n (fun m hm => ih m (by omega)) _ _ h5 fun q hq => hwe q (DataW.weights_mem_each (j := 5) rfl rfl q hq)
        have hts : t.size ≤ reachBytes := by
          have := hwe t.size (DataW.weights_mem_each (j := 1) rfl rfl t.size (by rw [hy1]; simp only [DataW.weights]; exact List.mem_singleton.2 Array.length_toList.symm))
          exact this
        have hr : reachBytes = 140737488351232 := rfl
        injection e0 with e0
        injection e1 with e1
        injection e2 with e2
        injection e3 with e3
        injection e4 with e4
        injection e5 with e5
        subst e0 e1 e2 e3 e4 e5
        obtain ⟨b0, b1⟩ := vint_bounds w0
        obtain ⟨b2, b3⟩ := vint_bounds w2
        exact ⟨.mk k t z r f a c n2 K, rfl, ⟨⟨b0, b1, by omega, b2, b3, flt_bound w3, g1, g2⟩, g3, fun i hi => ⟨(g4 i hi).1, (g4 i hi).2.1⟩⟩, ⟨by omega, fun i hi => (g4 i hi).2.2⟩⟩
set_option maxRecDepth 100000 in
/-- An argument of type api.Value. -/
theorem open_arg {H : Type} {enc : TypeId × Value → H} {W : World} {base b0 : Nat} {r : Reach} {held : Bool} {v : Value} {d : DataW H} {ps : List MemPlace} (hv : Value.okWide Tryd.prog W r b0 26 v)
    (h : DataW.Trod enc Tryd.prog W base (fun _ => true) held 26 v d ps) (hw : ∀ q ∈ d.weights Tryd.prog 26, q ≤ reachBytes) :
    ∃ x : Val, v = x.agg ∧ Lies (fun b => b < W.heap.size) W x ∧ x.slim := by
  obtain ⟨fuel, hf⟩ := h
  obtain ⟨cs, rfl, -⟩ := okWide_struct Tryd.underlying26 hv
  obtain ⟨x, hx, hl, hs⟩ := open_val fuel _ _ hf hw
  refine ⟨x, ?_, hl, hs⟩
  cases x with
  | no => exact hl.elim
  | mk k t z r f a c n K =>
    have : cs = #[.int .i64 k, .string t, .int .i64 z, .float .f64 r, .bool f, .slice a n c] := by
      rw [← Array.toList_inj]
      exact hx
    rw [this]
    rfl
set_option maxRecDepth 100000 in
/-- An argument of type []api.Value. -/
theorem open_args {H : Type} {enc : TypeId × Value → H} {W : World} {base b0 : Nat} {r : Reach} {held : Bool} {v : Value} {d : DataW H} {ps : List MemPlace} (hv : Value.okWide Tryd.prog W r b0 24 v)
    (h : DataW.Trod enc Tryd.prog W base (fun _ => true) held 24 v d ps) (hw : ∀ q ∈ d.weights Tryd.prog 24, q ≤ reachBytes) :
    ∃ (a : Option Addr) (c n : Nat) (K : Nat → Val), v = .slice a n c ∧ Lies (fun b => b < W.heap.size) W (.mk 5 ⟨#[]⟩ 0 0 false a c n K) ∧ ∀ i, i < n → (K i).slim := by
  obtain ⟨fuel, hf⟩ := h
  obtain ⟨a, len, cap, rfl⟩ := okWide_slice Tryd.underlying24 hv
  obtain ⟨a', c, n, K, e, g1, g2, g3, g4⟩ := open_list fuel (fun m _ cs x h hw => open_val m cs x h hw) _ _ hf hw
  have e : [Value.slice a len cap] = [.slice a' n c] := e
  injection e with e _
  injection e with e1 e2 e3
  subst e1 e2 e3
  refine ⟨a, cap, len, K, rfl, ⟨⟨by decide, by decide, by decide, by decide, by decide, by decide, g1, g2.1, g2.2⟩, g3, fun i hi => ⟨(g4 i hi).1, (g4 i hi).2.1⟩⟩, fun i hi => (g4 i hi).2.2⟩
end Go.Proofs.YtlebpaneignfaaaDoor
