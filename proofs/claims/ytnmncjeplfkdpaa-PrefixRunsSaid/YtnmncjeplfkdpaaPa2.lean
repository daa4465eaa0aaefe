/- Rows of marks that grow; the checking package's Drop, Put, Above, Walk of layer 7, at any row of marks. No condition but bounds. -/
import Derived.Test.YtnmncjeplfkdpaaPa1
namespace Go.Proofs.Ytnmncjeplfkdpaa.Pa
open Go.ChangeShapes Go.WideShapes Go.ChangeAt Go.RowKit
def cellsM (l : List Mk) : List Value := l.flatMap fun m => [.string m.1, .int .i64 m.2]
theorem cellsM_len (l : List Mk) : (cellsM l).length = l.length * 2 := by
  induction l with
  | nil => rfl
  | cons m l ih => simp only [cellsM, List.flatMap_cons, List.length_append, List.length_cons, List.length_nil] at ih ⊢; omega
theorem cellsM_app (l r : List Mk) : cellsM (l ++ r) = cellsM l ++ cellsM r := by simp [cellsM]
theorem cellsM_at (l : List Mk) : ∀ i (hi : i < l.length), (cellsM l)[i * 2]? = some (.string l[i].1) ∧ (cellsM l)[i * 2 + 1]? = some (.int .i64 l[i].2) := by
  induction l with
  | nil => intro i hi; simp at hi
  | cons m l ih =>
    intro i hi
    cases i with
    | zero => exact ⟨rfl, rfl⟩
    | succ i =>
      have h := ih i (by simpa using hi)
      have e1 : (i + 1) * 2 = i * 2 + 2 := by omega
      have e2 : (i + 1) * 2 + 1 = i * 2 + 1 + 2 := by omega
      rw [e1, show i * 2 + 2 + 1 = i * 2 + 1 + 2 by omega]
      exact h
theorem iMk : (Try.prog.info? 63).map (fun i => (i.zero, i.size, i.bytes)) = some (some (.agg #[.string ⟨#[]⟩, .int .i64 0]), 2, 24) := by kernel_rfl
/-- The marks l in a row v of the call's own, made behind the world wb; of wb all stands. -/
structure RowM (wb w : World) (v : Value) (l : List Mk) : Prop where
  row : w.ownsRow wb.heap.size 63 2 v l.length (cellsM l)
  bel : Below wb.heap.size wb w
theorem grow_of0 {w w' : World} (hb : Below w.heap.size w w') : w.grownBy w' none := ⟨hb.os, hb.tape, hb.output, hb.size, fun k hk _ => hb.block k hk⟩
theorem RowM.below {wb w w' : World} {v : Value} {l : List Mk} (h : RowM wb w v l) (hb : Below w.heap.size w w') : RowM wb w' v l :=
  ⟨h.row.kept (grow_of0 hb) (by cases hv : v.ownBlock <;> simp), h.bel.trans (hb.mono h.bel.size)⟩
theorem rowM_made (w : World) : RowM w (w.alloc (.cells #[] 63)) (.slice (some ⟨w.heap.size, 0, none⟩) 0 0) [] := ⟨World.ownsRow_made w #[] 0 (Nat.le_refl _) (Nat.zero_le _) rfl, bbox _⟩
theorem RowM.slice {wb w : World} {v : Value} {l : List Mk} (h : RowM wb w v l) : ∃ a c, v = .slice a l.length c ∧ l.length ≤ c ∧ c ≤ 9223372036854775807 ∧ InM w a l := by
  rcases h.row.2 with ⟨rfl, hn⟩ | ⟨g, cap, cur, rfl, hg, hh, h1, h2, h3, h4⟩
  · exact ⟨none, 0, by rw [hn], by omega, Nat.zero_le _, fun i hi => absurd hi (by omega)⟩
  · refine ⟨some ⟨g, 0, none⟩, cap, rfl, h1, by unfold maxLen at h2; omega, fun i hi => ⟨g, rfl, ?_, ?_⟩⟩
    · have e1 : (cur.toList.take (l.length * 2))[i * 2]? = cur.toList[i * 2]? := List.getElem?_take_of_lt (by omega)
      rw [h4, (cellsM_at l i hi).1] at e1
      simp only [World.cell?, hh]
      simpa using e1.symm
    · have e1 : (cur.toList.take (l.length * 2))[i * 2 + 1]? = cur.toList[i * 2 + 1]? := List.getElem?_take_of_lt (by omega)
      rw [h4, (cellsM_at l i hi).2] at e1
      simp only [World.cell?, hh]
      simpa using e1.symm
theorem mark_push {wb w : World} {v : Value} {l : List Mk} {ops : Array Oper} {rest : List Oper} {o : Oper} {a : Act} {Q : Exit → Act → World → Prop} (hO : RowM wb w v l) (hgd : o.guard = none) (s x : Operand)
    (ho : o.op = .call { callee := .builtin .append, args := #[s, x], argTypes := #[35, 35] }) (hs : a.eval s = v) (m : Mk) (arr : Array Value) (Te : TypeId) (c : Nat)
    {b : Nat} (hx : a.eval x = .slice (some ⟨b, 0, none⟩) 1 c) (hb : b = w.heap.size) (harr : arr = #[.string m.1, .int .i64 m.2]) (hl : l.length ≤ 1000000000)
    (h : ∀ v' w', RowM wb w' v' (l ++ [m]) → wpList Try.prog ops Q rest (a.put o.dst v') w') : wpList Try.prog ops Q (o :: rest) a (w.alloc (.cells arr Te)) := by
  obtain ⟨i0, hi, hz0, hz1, hz2⟩ := info_parts iMk
  subst harr
  subst hb
  have hO2 := hO.below (bbox (.cells #[.string m.1, .int .i64 m.2] Te))
  refine wpList_append_own _ hgd s x 35 ho wb.heap.size 63 i0 (.agg #[.string ⟨#[]⟩, .int .i64 0]) 2 24 Try.underlying35 hi hz0 hz1 hz2 rfl (by decide) v l.length (cellsM l) hs hO2.row ⟨w.heap.size, 0, none⟩ 1 c [.string m.1, .int .i64 m.2] hx rfl ?_ ?_ (by unfold maxLen; omega) (by omega) hO2.bel.size ?_
  · intro j u hj
    rw [Addr.add_lit, Nat.zero_add, World.cell?_alloc_new]
    simpa using hj
  · intro u hu
    simp only [List.mem_cons, List.not_mem_nil, or_false] at hu
    rcases hu with rfl | rfl <;> rfl
  · intro v' w' hr hg _
    refine h v' w' ⟨?_, hO2.bel.grown hg hO2.bel.size (fun k hk => (hO2.row.lt k hk).1)⟩
    rw [List.length_append, cellsM_app]
    exact hr
def dropM (l : List Mk) (k : ByteArray) : List Mk := l.filter fun m => !(m.1.toList == k.toList)
theorem dropM_take {l : List Mk} {k : ByteArray} {j : Nat} (hj : j < l.length) : dropM (l.take (j + 1)) k = dropM (l.take j) k ++ (if (l[j].1.toList == k.toList) then [] else [l[j]]) := by
  unfold dropM
  rw [← List.take_append_getElem hj, List.filter_append]
  cases h : (l[j].1.toList == k.toList) <;> simp [h]
theorem dropM_len (l : List Mk) (k : ByteArray) : (dropM l k).length ≤ l.length := List.length_filter_le _ _
end Go.Proofs.Ytnmncjeplfkdpaa.Pa
