/- Rows that grow, as things; blocks whose cells are known, written; a row that is new is known from now on. Of no program, no condition but bounds. -/
import Derived.Test.YtjfcdkmnccafaaaSp1
import Derived.Maps.AppendAt
import Derived.Laws.OwnMore
namespace Go.Proofs.Ytjfcdkmnccafaaa.Sp
set_option linter.unusedVariables false
set_option linter.unusedSimpArgs false
open Go.ChangeShapes Go.WideShapes Go.ChangeAt Go.RowKit
theorem row_block {w w' : World} {base : Nat} {e : TypeId} {size : Nat} {v : Value} {n : Nat} {xs : List Value} (h : w.ownsRow base e size v n xs) (hb : ∀ x, v.ownBlock = some x → w'.heap[x]? = w.heap[x]?) : w'.ownsRow base e size v n xs := by
  refine ⟨h.1, ?_⟩
  rcases h.2 with hn | ⟨g, cap, cur, rfl, h1, h2, h3⟩
  · exact .inl hn
  · exact .inr ⟨g, cap, cur, rfl, h1, (hb g rfl).trans h2, h3⟩
theorem row_base {w : World} {base : Nat} {e : TypeId} {size : Nat} {v : Value} {n : Nat} {xs : List Value} (h : w.ownsRow base e size v n xs) (base' : Nat) (hb : ∀ g, v.ownBlock = some g → base' ≤ g) : w.ownsRow base' e size v n xs := by
  refine ⟨h.1, ?_⟩
  rcases h.2 with hn | ⟨g, cap, cur, rfl, h1, h2, h3⟩
  · exact .inl hn
  · exact .inr ⟨g, cap, cur, rfl, hb g rfl, h2, h3⟩
/-- A row of n elements of so many cells each, in a block of its own (or nil). -/
def rowT (e : TypeId) (size : Nat) (v : Value) (n : Nat) (xs : List Value) : Th :=
  ⟨fun O _ w => (∀ x, O x ↔ v.ownBlock = some x) ∧ w.ownsRow 0 e size v n xs,
   fun h x hx => (h.2.lt x ((h.1 x).1 hx)).2,
   fun h _ _ _ hb => ⟨h.1, row_block h.2 fun x hx => hb x (.inl ((h.1 x).2 hx))⟩⟩
section
variable {o w w' wb : World} {l : List Th} {e : TypeId} {size n cap g : Nat} {v : Value} {xs : List Value}
theorem Hp.row (h : Hp o w (rowT e size v n xs :: l)) : w.ownsRow 0 e size v n xs := h.say fun k _ _ => k.2
theorem Hp.rowCell (h : Hp o w (rowT e size (.slice (some ⟨g, 0, none⟩) n cap) n xs :: l)) {j : Nat} (hj : j < n * size) : w.cell? ⟨g, j, none⟩ = xs[j]? := h.row.cellAt j hj
theorem Hp.rowFrozen (h : Hp o w (rowT e size (.slice (some ⟨g, 0, none⟩) n cap) n xs :: l)) (j : Nat) : w.frozen? ⟨g, j, none⟩ = false := h.row.frozenAt j
theorem Hp.rowForm (h : Hp o w (rowT e size v n xs :: l)) : ∃ a c, v = .slice a n c ∧ n ≤ c ∧ c ≤ 9223372036854775807 ∧ (0 < n → ∃ g, a = some ⟨g, 0, none⟩) := by
  rcases h.row.2 with ⟨rfl, rfl⟩ | ⟨g, cap, cur, rfl, -, -, h1, h2, -⟩
  · exact ⟨none, 0, rfl, Nat.le_refl _, by decide, fun h => absurd h (Nat.lt_irrefl _)⟩
  · exact ⟨_, cap, rfl, h1, by unfold maxLen at h2; omega, fun _ => ⟨g, rfl⟩⟩
theorem Hp.rowSet (h : Hp o w (rowT e size (.slice (some ⟨g, 0, none⟩) n cap) n xs :: l)) (j : Nat) (u : Value) : Hp o (w.setCell ⟨g, j, none⟩ u) (rowT e size (.slice (some ⟨g, 0, none⟩) n cap) n (xs.set j u) :: l) := by
  refine (h.moved (Below.refl _ _) (ts := [rowT e size (.slice (some ⟨g, 0, none⟩) n cap) n (xs.set j u)]) fun {A R} k hA hR hAR => ?_).1
  obtain ⟨k1, k2⟩ := k.2.stored j u
  exact mvd1 (A' := A) ⟨k.1, k1⟩ (Fr.setCell w ⟨g, j, none⟩ ((k.1 g).2 rfl) u) hR hAR fun x hx => .inl hx
theorem Hp.rowCut {a : Option Addr} (h : Hp o w (rowT e size (.slice a n cap) n xs :: l)) (m : Nat) (hm : m ≤ n) : Hp o w (rowT e size (.slice a m cap) m (xs.take (m * size)) :: l) := by
  refine (h.moved (Below.refl _ _) (ts := [rowT e size (.slice a m cap) m (xs.take (m * size))]) fun {A R} k hA hR hAR => ?_).1
  refine mvd1 (A' := A) ⟨fun x => (k.1 x).trans (by cases a <;> simp [Value.ownBlock]), ?_⟩ (Fr.refl w) hR hAR fun x hx => .inl hx
  have hl := k.2.1
  have hmn := Nat.mul_le_mul_right size hm
  refine ⟨by rw [List.length_take]; omega, ?_⟩
  rcases k.2.2 with ⟨h1, h2⟩ | ⟨g, c, cur, h1, h2, h3, h4, h5, h6, h7⟩
  · injection h1 with e1 e2 e3
    subst e1 e3
    have : m = 0 := by omega
    subst this
    exact .inl ⟨rfl, rfl⟩
  · injection h1 with e1 e2 e3
    subst e1 e3
    refine .inr ⟨g, cap, cur, rfl, h2, h3, by omega, h5, h6, ?_⟩
    rw [← h7, List.take_take, Nat.min_eq_left hmn]
theorem Hp.rowNil (h : Hp o w l) (e : TypeId) (size : Nat) : Hp o w (rowT e size (.slice none 0 0) 0 [] :: l) :=
  h.add (Below.refl _ _) (ts := [rowT e size (.slice none 0 0) 0 []]) fun {R} hR => ⟨fun _ => False, R, ⟨fun _ => False, fun _ => False, ⟨fun x => by simp [Value.ownBlock], World.ownsRow_nil _ _ _ _⟩, fun _ h => h, fun _ h => h.elim, fun x => by simp⟩, fun x hx => hx.elim, fun _ h => h, fun x hx => ⟨.inl hx, hR x hx⟩⟩
/-- A row that a call made. -/
theorem Hp.rowAdd (h : Hp o w l) (hb : Below w.heap.size w w') {base : Nat} (hr : w'.ownsRow base e size v n xs) (hbase : w.heap.size ≤ base) : Hp o w' (rowT e size v n xs :: l) :=
  h.add hb (ts := [rowT e size v n xs]) fun {R} hR => ⟨fun x => v.ownBlock = some x, R, ⟨_, fun _ => False, ⟨fun x => Iff.rfl, row_base hr 0 fun _ _ => Nat.zero_le _⟩, fun _ h => h, fun _ _ h => h, fun x => by simp⟩, fun x hx => ⟨Nat.le_trans hbase (hr.lt x hx).1, fun hr' => by have := hR x hr'; have := (hr.lt x hx).1; omega⟩, fun _ h => h, fun x hx => ⟨.inl hx, Nat.lt_of_lt_of_le (hR x hx) hb.size⟩⟩
/-- append onto a row. -/
theorem Hp.rowPush {P : Program} {ops : Array Oper} {rest : List Oper} {op : Oper} {a : Act} {Q : Exit → Act → World → Prop} (h : Hp o w (rowT e size v n xs :: l)) (hw : Below w.heap.size w wb) (hgd : op.guard = none) (s x : Operand) (t : TypeId)
    (ho : op.op = .call { callee := .builtin .append, args := #[s, x], argTypes := #[t, t] })
    (i : TypeInfo) (z : Value) (bytes : Nat) (ht : P.underlying t = some (.slice e)) (hi : P.info? e = some i) (hz : i.zero = some z)
    (hsize : i.size = size) (hby : i.bytes = bytes) (hzs : z.cells.size = size) (hsz : 0 < size) (hs : a.eval s = v)
    (ad : Addr) (m c : Nat) (news : List Value) (hx : a.eval x = .slice (some ad) m c) (hl : news.length = m * size) (hnews : ∀ j u, news[j]? = some u → wb.cell? (ad.add j) = some u) (h1 : ∀ u ∈ news, u.oneCell' = true)
    (h63 : n + m ≤ maxLen) (hbytes : (n + m) * bytes ≤ 140737488355328)
    (K : ∀ v' w', Hp o w' (rowT e size v' (n + m) (xs ++ news) :: l) → Stays w wb w' → wpList P ops Q rest (a.put op.dst v') w') : wpList P ops Q (op :: rest) a wb := by
  have hb := h.bel hw
  refine wpList_append_own_at wb hgd s x t ho 0 e i z size bytes ht hi hz hsize hby hzs hsz v n xs hs hb.row ad m c news hx hl hnews h1 h63 hbytes (Nat.zero_le _) ?_
  intro v' w' g1 g2 g3 g4
  have := h.moved hw (w' := w') (ts := [rowT e size v' (n + m) (xs ++ news)]) fun {A R} k hA hR hAR => ?_
  · exact K v' w' this.1 this.2
  · refine mvd1 (A' := fun x => v'.ownBlock = some x) ⟨fun x => Iff.rfl, g1⟩ ⟨g2.os, g2.tape, g2.output, g2.size, fun i hi hn => g2.block i hi fun e => hn ((k.1 i).2 e.symm)⟩ (fun x hx => Nat.lt_of_lt_of_le (hR x hx) hw.size) hAR fun x hx => ?_
    rcases g4 with e | e
    · exact .inl ((k.1 x).2 (by rw [← e]; exact hx))
    · rw [e] at hx
      obtain rfl := Option.some.inj hx
      exact .inr (Nat.le_refl _)
/-- A row is given away: no one writes it any more. -/
theorem Hp.rowGive (h : Hp o w (rowT e size v n xs :: l)) (r : Ro) (k : ∀ {R}, (∀ x, v.ownBlock = some x → R x) → r.P R w) : Hp o w (roT r :: l) := by
  refine (h.moved (Below.refl _ _) (ts := [roT r]) fun {A R} k1 hA hR hAR => ?_).1
  refine ⟨fun _ => False, fun x => R x ∨ A x, ⟨fun _ => False, fun _ => False, ⟨fun _ h => h, k fun x hx => .inr ((k1.1 x).2 hx)⟩, fun _ h => h, fun _ h => h.elim, fun x => by simp⟩, Fr.refl w, fun x hx => hx.elim, fun x hx => .inl hx, fun x hx => ?_⟩
  rcases hx with hx | hx
  · exact ⟨.inl hx, hR x hx⟩
  · exact ⟨.inr (.inl hx), hA x hx⟩
theorem Hp.cells {b : Nat} {vs : List Value} (h : Hp o w (cellsT b vs :: l)) : ∀ i (hi : i < vs.length), w.cell? ⟨b, i, none⟩ = some vs[i] := h.say fun k _ _ => k.2.2.1
theorem Hp.cellsF {b : Nat} {vs : List Value} (h : Hp o w (cellsT b vs :: l)) : ∀ i, i < vs.length → w.frozen? ⟨b, i, none⟩ = false := h.say fun k _ _ => k.2.2.2
theorem Hp.cell {b : Nat} {vs : List Value} (h : Hp o w (cellsT b vs :: l)) (i : Nat) {v : Value} (hv : vs[i]? = some v) : w.cell? ⟨b, i, none⟩ = some v := by
  obtain ⟨hi, e⟩ := List.getElem?_eq_some_iff.1 hv
  rw [h.cells i hi, e]
theorem Hp.free {b : Nat} {vs : List Value} (h : Hp o w (cellsT b vs :: l)) (i : Nat) {v : Value} (hv : vs[i]? = some v) : w.frozen? ⟨b, i, none⟩ = false := h.cellsF i (List.getElem?_eq_some_iff.1 hv).1
theorem Hp.cellsLt {b : Nat} {vs : List Value} (h : Hp o w (cellsT b vs :: l)) : b < w.heap.size := h.say fun k _ _ => k.2.1
theorem Hp.cellsSet {b : Nat} {vs : List Value} (h : Hp o w (cellsT b vs :: l)) (i : Nat) (u : Value) (hi : i < vs.length) : Hp o (w.setCell ⟨b, i, none⟩ u) (cellsT b (vs.set i u) :: l) := by
  refine (h.moved (Below.refl _ _) (ts := [cellsT b (vs.set i u)]) fun {A R} k hA hR hAR => ?_).1
  obtain ⟨k1, k2, k3, k4⟩ := k
  refine mvd1 (A' := A) ⟨k1, by simpa [World.setCell] using k2, fun j hj => ?_, fun j hj => by rw [World.frozen?_setCell]; exact k4 j (by simpa using hj)⟩ (Fr.setCell w ⟨b, i, none⟩ ((k1 b).2 rfl) u) hR hAR fun x hx => .inl hx
  by_cases e : j = i
  · subst e
    rw [List.getElem_set_self]
    exact World.cell?_setCell_same w _ u (k3 j hi)
  · rw [List.getElem_set_ne (Ne.symm e)]
    have hj' : j < vs.length := by simpa using hj
    refine (World.cell?_setCell_other _ _ _ _ fun h => ?_).trans (k3 j hj')
    injection h with _ h2
    exact e h2.symm
theorem Hp.cellSet {b : Nat} {vs : List Value} (h : Hp o w (cellsT b vs :: l)) (i : Nat) (u : Value) {v : Value} (hv : vs[i]? = some v) : Hp o (w.setCell ⟨b, i, none⟩ u) (cellsT b (vs.set i u) :: l) := h.cellsSet i u (List.getElem?_eq_some_iff.1 hv).1
theorem Hp.cellsNew (h : Hp o w l) (vs : List Value) (T : TypeId) : Hp o (w.alloc (.cells vs.toArray T)) (cellsT w.heap.size vs :: l) := by
  have hs : (w.alloc (.cells vs.toArray T)).heap.size = w.heap.size + 1 := by simp
  have hc := fun j => World.cell?_alloc_new w vs.toArray T j
  refine h.add (bbox _) (ts := [cellsT w.heap.size vs]) fun {R} hR => ⟨fun x => x = w.heap.size, R, ⟨_, fun _ => False, ⟨fun x => Iff.rfl, by omega, fun i hi => ?_, fun i hi => ?_⟩, fun _ h => h, fun _ _ h => h, fun x => by simp⟩, fun x hx => ⟨by omega, fun hr => by have := hR x hr; omega⟩, fun _ h => h, fun x hx => ⟨.inl hx, by have := hR x hx; omega⟩⟩
  · rw [hc]
    simp [hi]
  · go_simp
end

/-- The thing at a place to the front, and the first one back to a place: for lists that are written out. -/
theorem Hp.pull' {o w : World} {l : List Th} (h : Hp o w l) (i : Nat) {t : Th} {m : List Th} (ht : l[i]? = some t) (hm : l.eraseIdx i = m) : Hp o w (t :: m) := hm ▸ h.pull i ht
theorem Hp.push' {o w : World} {l : List Th} {t : Th} (h : Hp o w (t :: l)) (i : Nat) {m : List Th} (hm : l.insertIdx i t = m) : Hp o w m := hm ▸ h.push i
end Go.Proofs.Ytjfcdkmnccafaaa.Sp
