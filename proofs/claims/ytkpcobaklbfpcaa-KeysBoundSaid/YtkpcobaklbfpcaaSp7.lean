/- Rows that grow, further: all of a row's room, many cells written at once; a map put to, as an equation on its run. Of no program, no condition but bounds. -/
import Derived.Test.YtkpcobaklbfpcaaSp6
import Derived.Laws.IdiomCopy
namespace Go.Proofs.Ytkpcobaklbfpcaa.Sp
set_option linter.unusedVariables false
set_option linter.unusedSimpArgs false
open Go.ChangeShapes Go.WideShapes Go.ChangeAt Go.RowKit Go.Maps Go.WideMaps
section
variable {o w w' wb : World} {l : List Th} {e : TypeId} {size n cap g : Nat} {v : Value} {xs : List Value}
/-- A row with all its room. -/
theorem Hp.rowFull (h : Hp o w (rowT e size (.slice (some ⟨g, 0, none⟩) n cap) n xs :: l)) : ∃ ys, xs.length = n * size ∧ (xs ++ ys).length = cap * size ∧ n ≤ cap ∧ cap ≤ maxLen ∧ w.heap[g]? = some (.cells (xs ++ ys).toArray e (0, 0)) ∧ Hp o w (rowT e size (.slice (some ⟨g, 0, none⟩) cap cap) cap (xs ++ ys) :: l) := by
  have hr := h.row
  have hlen := hr.1
  rcases hr.2 with ⟨h0, -⟩ | ⟨g', cap', cur, h0, -, hb, h1, h2, h3, h4⟩
  · injection h0 with h0; cases h0
  · injection h0 with e1 e2 e3
    injection e1 with e1
    injection e1 with e1
    subst e1 e3
    have hcur : xs ++ cur.toList.drop (n * size) = cur.toList := by rw [← h4, List.take_append_drop]
    have harr : (xs ++ cur.toList.drop (n * size)).toArray = cur := by rw [hcur]
    refine ⟨cur.toList.drop (n * size), hlen, by rw [hcur, Array.length_toList, h3], h1, h2, by rw [harr]; exact hb, (h.moved (Below.refl _ _) (ts := [rowT e size (.slice (some ⟨g, 0, none⟩) cap cap) cap (xs ++ cur.toList.drop (n * size))]) fun {A R} k hA hR hAR => ?_).1⟩
    refine mvd1 (A' := A) ⟨k.1, ?_⟩ (Fr.refl w) hR hAR fun x hx => .inl hx
    refine ⟨by rw [hcur, Array.length_toList, h3], .inr ⟨g, cap, cur, rfl, Nat.zero_le _, hb, Nat.le_refl _, h2, h3, ?_⟩⟩
    rw [hcur, ← h3, ← Array.length_toList, List.take_length]
theorem set_split (xs vs : List Value) (v : Value) (o' : Nat) (h : o' + (vs.length + 1) ≤ xs.length) : (xs.set o' v).take (o' + 1) ++ vs ++ (xs.set o' v).drop (o' + 1 + vs.length) = xs.take o' ++ (v :: vs) ++ xs.drop (o' + (vs.length + 1)) := by
  have h1 : (xs.set o' v).take (o' + 1) = xs.take o' ++ [v] := by
    rw [List.take_set, List.take_add_one, List.getElem?_eq_getElem (by omega)]
    simp only [Option.toList_some]
    rw [List.set_append_right _ _ (by rw [List.length_take]; omega)]
    congr 1
    rw [List.length_take, Nat.min_eq_left (by omega), Nat.sub_self]; rfl
  have h2 : (xs.set o' v).drop (o' + 1 + vs.length) = xs.drop (o' + (vs.length + 1)) := by
    rw [List.drop_set_of_lt (by omega), show o' + 1 + vs.length = o' + (vs.length + 1) by omega]
  rw [h1, h2]
  simp
/-- Many cells of a row, written. -/
theorem Hp.rowCells : ∀ (vs : List Value) (o' : Nat) {w : World} {xs : List Value}, Hp o w (rowT e size (.slice (some ⟨g, 0, none⟩) n cap) n xs :: l) → o' + vs.length ≤ xs.length → Hp o (w.setCells g o' vs) (rowT e size (.slice (some ⟨g, 0, none⟩) n cap) n (xs.take o' ++ vs ++ xs.drop (o' + vs.length)) :: l)
  | [], o', w, xs, h, _ => by
    rw [List.append_nil, List.length_nil, Nat.add_zero, List.take_append_drop]
    exact h
  | v :: vs, o', w, xs, h, hl => by
    have h1 := Hp.rowCells vs (o' + 1) (h.rowSet o' v) (by rw [List.length_set]; simp only [List.length_cons] at hl; omega)
    rw [set_split xs vs v o' (by simpa using hl)] at h1
    exact h1
/-- A row that was laid out whole. -/
theorem Hp.rowLit (h : Hp o w l) (cs : Array Value) (m : Nat) (hm : m ≤ maxLen) (hs : cs.size = m * size) (e : TypeId) : Hp o (w.alloc (.cells cs e)) (rowT e size (.slice (some ⟨w.heap.size, 0, none⟩) m m) m cs.toList :: l) :=
  h.rowAdd (bbox _) (World.ownsRow_lit w cs m (Nat.le_refl _) hm hs) (Nat.le_refl _)
/-- A row's room is not looked at. -/
theorem Hp.rowCap (h : Hp o w (rowT e size (.slice (some ⟨g, 0, none⟩) cap cap) cap xs :: l)) (m : Nat) (hm : m ≤ cap) {zs : List Value} (hz : xs.take (m * size) = zs) : Hp o w (rowT e size (.slice (some ⟨g, 0, none⟩) m cap) m zs :: l) := hz ▸ h.rowCut m hm
end
/-- The things at these places to the front, in this order; the places are those of the list as it stands. -/
def selF : Nat → List Nat → List Th → Option (List Th)
  | 0, _, l => some l
  | _ + 1, [], l => some l
  | n + 1, i :: is, l => match l[i]? with
    | none => none
    | some t => (selF n (is.map fun j => if Nat.blt i j then Nat.pred j else j) (l.eraseIdx i)).map (t :: ·)
theorem selF_perm : ∀ (n : Nat) (is : List Nat) (l m : List Th), selF n is l = some m → List.Perm l m
  | 0, _, l, m, h => by injection h with h; subst h; exact List.Perm.refl _
  | _ + 1, [], l, m, h => by injection h with h; subst h; exact List.Perm.refl _
  | n + 1, i :: is, l, m, h => by
    unfold selF at h
    cases ht : l[i]? with
    | none => rw [ht] at h; cases h
    | some t =>
      rw [ht] at h
      cases hr : selF n (is.map fun j => if Nat.blt i j then Nat.pred j else j) (l.eraseIdx i) with
      | none => simp only [hr] at h; cases h
      | some r =>
        simp only [hr] at h
        injection h with h
        subst h
        exact (pull_perm i l t ht).trans ((selF_perm n _ _ _ hr).cons t)
theorem Hp.sel {o w : World} {l : List Th} (h : Hp o w l) (is : List Nat) {m : List Th} (hm : selF 12 is l = some m) : Hp o w m := h.perm (selF_perm _ _ _ _ hm)
section
variable {P : Program} {kt e T : TypeId} {α : Type} {L : El P e α} {o w w' wb : World} {l : List Th} {M n c : Nat} {g : ByteArray → Option α}
theorem Hp.mapPutRun (h : Hp o w (mapT kt L M n c g :: l)) (hk0 : P.underlying kt = some .string) (hT : P.underlying T = some (.map kt e)) (k : ByteArray) (hk : k.size ≤ maxLen) (z : α) (hz : L.ok z) (hc : c < maxLen) (n2 : Nat) (hn2 : (n + if (g k).isSome = true then 0 else 1) = n2) :
    ∃ w', (Instr.mapUpdate T (.map (some M)) (.string k) (L.enc z)).run P w = .ok () w' ∧ Hp o w' (mapT kt L M n2 (c + 1) (setG g k (some z)) :: l) := by
  subst hn2
  obtain ⟨D, hm', hM⟩ : ∃ D, w.ownsMap P kt L.R M c D ∧ MI L g D n := h.say fun {A R} hp _ _ => hp.2
  obtain ⟨w', hr, hw', hg⟩ := hm'.update (t := T) (e := e) (string_keyed hk0) hT hc (keyOf_string_mk hk0 hk) (L.reads z hz)
  exact ⟨w', hr, h.mapTurn (D := D) hw' (hM.put k z hz) hg⟩
end
end Go.Proofs.Ytkpcobaklbfpcaa.Sp
