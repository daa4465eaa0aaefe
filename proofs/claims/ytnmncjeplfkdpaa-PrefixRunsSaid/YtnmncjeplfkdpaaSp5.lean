/- Rows that grow, further: append onto a view without room (a new row), and onto a row that is not nil (the new one isn't either). Of no program, no condition but bounds. -/
import Derived.Test.YtnmncjeplfkdpaaSp3
namespace Go.Proofs.Ytnmncjeplfkdpaa.Sp
set_option linter.unusedVariables false
set_option linter.unusedSimpArgs false
open Go.ChangeShapes Go.WideShapes Go.ChangeAt Go.RowKit
section
variable {P : Program} {o w wb : World} {l : List Th} {e : TypeId} {size n cap : Nat} {xs : List Value}
/-- append onto a view that has no room: a row of its own. -/
theorem viewRun (h : Hp o wb l) (t ty : TypeId) (i : TypeInfo) (z : Value) (bytes : Nat) (ht : P.underlying t = some (.slice e)) (hi : P.info? e = some i) (hz : i.zero = some z)
    (hsize : i.size = size) (hby : i.bytes = bytes) (hzs : z.cells.size = size)
    (b : Addr) (hlo : xs.length = n * size) (holds : ∀ j v, xs[j]? = some v → wb.cell? (b.add j) = some v)
    (ad : Addr) (m c : Nat) (news : List Value) (hl : news.length = m * size) (hnews : ∀ j u, news[j]? = some u → wb.cell? (ad.add j) = some u)
    (hg : cap < n + m) (h63 : n + m ≤ maxLen) (hbytes : (n + m) * bytes ≤ 140737488355328) :
    ∃ g c' w', (Builtin.append_ #[t, t] ty #[.slice (some b) n cap, .slice (some ad) m c]).run P wb = .ok (.slice (some ⟨g, 0, none⟩) (n + m) c') w' ∧ Hp o w' (rowT e size (.slice (some ⟨g, 0, none⟩) (n + m) c') (n + m) (xs ++ news) :: l) ∧ Below wb.heap.size wb w' := by
  subst hsize
  subst hby
  have hr := run_append_grow (P := P) wb t ty e i z ht hi hz b n cap xs hlo holds ad m c news hl hnews hg (by simp only [maxLen] at h63; omega) (growslice_fits hg hbytes)
  have hge := grownCap_ge wb (n + m) cap e
  have hcm : grownCap wb (n + m) cap e ≤ maxLen := grownCap_le_maxLen wb (n + m) cap e h63
  have hlen : (xs ++ news).length = (n + m) * i.size := by rw [List.length_append, hlo, hl, Nat.add_mul]
  have hb : Below wb.heap.size wb (wb.drew.alloc (.cells (xs.toArray ++ news.toArray ++ Builtin.zeroCells z.cells (grownCap wb (n + m) cap e - (n + m))) e)) := ((Below.refl _ _).drew).alloc (Nat.le_refl _) _
  refine ⟨_, _, _, hr, h.rowAdd hb (base := wb.heap.size) ⟨hlen, .inr ⟨wb.heap.size, _, _, rfl, Nat.le_refl _, heap_alloc_new wb.drew _, hge, hcm, ?_, ?_⟩⟩ (Nat.le_refl _), hb⟩
  · simp only [Array.size_append, List.size_toArray, size_zeroCells, hzs, hlo, hl, ← Nat.add_mul]
    congr 1
    omega
  · simp only [Array.toList_append, List.append_assoc]
    rw [← List.append_assoc, ← hlen]
    exact List.take_left
/-- append onto a row that is not nil, as an equation on its run. -/
theorem rowRunS {g : Nat} (h : Hp o w (rowT e size (.slice (some ⟨g, 0, none⟩) n cap) n xs :: l)) (hw : Below w.heap.size w wb) (t ty : TypeId) (i : TypeInfo) (z : Value) (bytes : Nat) (ht : P.underlying t = some (.slice e)) (hi : P.info? e = some i) (hz : i.zero = some z)
    (hsize : i.size = size) (hby : i.bytes = bytes) (hzs : z.cells.size = size) (hsz : 0 < size)
    (ad : Addr) (m c : Nat) (news : List Value) (hl : news.length = m * size) (hnews : ∀ j u, news[j]? = some u → wb.cell? (ad.add j) = some u) (h1 : ∀ u ∈ news, u.oneCell' = true)
    (h63 : n + m ≤ maxLen) (hbytes : (n + m) * bytes ≤ 140737488355328) :
    ∃ g' c' w', (Builtin.append_ #[t, t] ty #[.slice (some ⟨g, 0, none⟩) n cap, .slice (some ad) m c]).run P wb = .ok (.slice (some ⟨g', 0, none⟩) (n + m) c') w' ∧ Hp o w' (rowT e size (.slice (some ⟨g', 0, none⟩) (n + m) c') (n + m) (xs ++ news) :: l) ∧ Stays w wb w' := by
  have hb := h.bel hw
  obtain ⟨v', w', hr, g1, g2, g3, g4⟩ := run_append_own_at (P := P) wb 0 t ty e i z size bytes ht hi hz hsize hby hzs hsz _ n xs hb.row ad m c news hl hnews h1 h63 hbytes (Nat.zero_le _)
  have h9 := h.moved hw (w' := w') (ts := [rowT e size v' (n + m) (xs ++ news)]) fun {A R} k hA hR hAR => by
    refine mvd1 (A' := fun x => v'.ownBlock = some x) ⟨fun x => Iff.rfl, g1⟩ ⟨g2.os, g2.tape, g2.output, g2.size, fun i hi hn => g2.block i hi fun e => hn ((k.1 i).2 e.symm)⟩ (fun x hx => Nat.lt_of_lt_of_le (hR x hx) hw.size) hAR fun x hx => ?_
    rcases g4 with e | e
    · exact .inl ((k.1 x).2 (by rw [← e]; exact hx))
    · rw [e] at hx
      obtain rfl := Option.some.inj hx
      exact .inr (Nat.le_refl _)
  rcases g1.2 with ⟨e, -⟩ | ⟨g', c', cur, e, -⟩
  · have := (g3.1 e).1
    injection this with e1
    cases e1
  · subst e
    exact ⟨g', c', w', hr, h9.1, h9.2⟩
/-- .. as a step. -/
theorem Hp.rowPushS {ops : Array Oper} {rest : List Oper} {op : Oper} {a : Act} {Q : Exit → Act → World → Prop} {g : Nat} (h : Hp o w (rowT e size (.slice (some ⟨g, 0, none⟩) n cap) n xs :: l)) (hw : Below w.heap.size w wb) (hgd : op.guard = none) (s x : Operand) (t : TypeId)
    (ho : op.op = .call { callee := .builtin .append, args := #[s, x], argTypes := #[t, t] })
    (i : TypeInfo) (z : Value) (bytes : Nat) (ht : P.underlying t = some (.slice e)) (hi : P.info? e = some i) (hz : i.zero = some z)
    (hsize : i.size = size) (hby : i.bytes = bytes) (hzs : z.cells.size = size) (hsz : 0 < size) (hs : a.eval s = .slice (some ⟨g, 0, none⟩) n cap)
    (ad : Addr) (m c : Nat) (news : List Value) (hx : a.eval x = .slice (some ad) m c) (hl : news.length = m * size) (hnews : ∀ j u, news[j]? = some u → wb.cell? (ad.add j) = some u) (h1 : ∀ u ∈ news, u.oneCell' = true)
    (h63 : n + m ≤ maxLen) (hbytes : (n + m) * bytes ≤ 140737488355328)
    (K : ∀ g' c' w', Hp o w' (rowT e size (.slice (some ⟨g', 0, none⟩) (n + m) c') (n + m) (xs ++ news) :: l) → wpList P ops Q rest (a.put op.dst (.slice (some ⟨g', 0, none⟩) (n + m) c')) w') : wpList P ops Q (op :: rest) a wb := by
  have hb := h.bel hw
  refine wpList_append_own_at wb hgd s x t ho 0 e i z size bytes ht hi hz hsize hby hzs hsz _ n xs hs hb.row ad m c news hx hl hnews h1 h63 hbytes (Nat.zero_le _) ?_
  intro v' w' g1 g2 g3 g4
  have h9 := (h.moved hw (w' := w') (ts := [rowT e size v' (n + m) (xs ++ news)]) fun {A R} k hA hR hAR => by
    refine mvd1 (A' := fun x => v'.ownBlock = some x) ⟨fun x => Iff.rfl, g1⟩ ⟨g2.os, g2.tape, g2.output, g2.size, fun i hi hn => g2.block i hi fun e => hn ((k.1 i).2 e.symm)⟩ (fun x hx => Nat.lt_of_lt_of_le (hR x hx) hw.size) hAR fun x hx => ?_
    rcases g4 with e | e
    · exact .inl ((k.1 x).2 (by rw [← e]; exact hx))
    · rw [e] at hx
      obtain rfl := Option.some.inj hx
      exact .inr (Nat.le_refl _)).1
  rcases g1.2 with ⟨e, -⟩ | ⟨g', c', cur, e, -⟩
  · have := (g3.1 e).1
    injection this with e1
    cases e1
  · subst e
    exact K g' c' w' h9
end
end Go.Proofs.Ytnmncjeplfkdpaa.Sp
