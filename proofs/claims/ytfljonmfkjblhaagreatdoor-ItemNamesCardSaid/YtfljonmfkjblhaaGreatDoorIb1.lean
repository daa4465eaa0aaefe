/- The checking package's Get of layer 9; rows that grow beside boxes of the call's own. Conditions: the fields' names rise. -/
import Derived.Test.YtfljonmfkjblhaaGreatDoorIa4
namespace Go.Proofs.YtfljonmfkjblhaaGreatDoor.Ia
open Go.ChangeShapes Go.WideShapes Go.ChangeAt Go.RowKit
theorem lt_ne2 {a b : ByteArray} (h : lt a b = true) : (b.toList == a.toList) = false := by
  rw [beq_eq_false_iff_ne]
  intro e
  rw [ba_eq e, lt_irrefl] at h
  cases h
/-- Of a field that stands somewhere: its name against the name asked. -/
theorem Split.eqs {n : ByteArray} {l A M B : List Fd} (h : Split n l A M B) {i : Nat} (hi : i < l.length) :
    (i < A.length ∧ (l[i].1.toList == n.toList) = false ∧ (n.toList == l[i].1.toList) = false ∧ Op.bytesLess n.toList l[i].1.toList = false) ∨
    (i = A.length ∧ there M = true ∧ M.length = 1 ∧ l[i] = (n, txt M) ∧ (l[i].1.toList == n.toList) = true ∧ (n.toList == l[i].1.toList) = true ∧ Op.bytesLess n.toList l[i].1.toList = false) ∨
    (A.length + M.length ≤ i ∧ (l[i].1.toList == n.toList) = false ∧ (n.toList == l[i].1.toList) = false ∧ Op.bytesLess n.toList l[i].1.toList = true) := by
  have hml := h.ml
  by_cases ha : i < A.length
  · have e := h.at_a hi ha
    exact .inl ⟨ha, lt_ne e, lt_ne2 e, lt_asymm e⟩
  · by_cases hm : i < A.length + M.length
    · have e := h.at_m hi (by omega) (by omega)
      refine .inr (.inl ⟨by omega, ?_, by omega, e, ?_, ?_, ?_⟩)
      · cases M with
        | nil => simp at hm; omega
        | cons x y => rfl
      · rw [e]; exact beq_self_eq_true _
      · rw [e]; exact beq_self_eq_true _
      · rw [e]; exact lt_irrefl n
    · have e := h.at_b hi (by omega)
      exact .inr (.inr ⟨by omega, lt_ne2 e, lt_ne e, e⟩)
theorem RowB.lt {B : Nat} {wa w : World} {v : Value} {l : List Fd} (h : RowB B wa w v l) : ∀ k, v.ownBlock = some k → B ≤ k ∧ k < w.heap.size := h.1.lt
theorem RowB.slice {B : Nat} {wa w : World} {v : Value} {l : List Fd} (h : RowB B wa w v l) : ∃ a c, v = .slice a l.length c ∧ l.length ≤ c ∧ c ≤ 9223372036854775807 := by
  rcases h.1.2 with ⟨rfl, hn⟩ | ⟨g, cap, cur, rfl, hg, hh, h1, h2, h3, h4⟩
  · exact ⟨none, 0, by rw [hn], by omega, Nat.zero_le _⟩
  · exact ⟨some ⟨g, 0, none⟩, cap, rfl, h1, by unfold maxLen at h2; omega⟩
theorem RowB.alloc {B : Nat} {wa w : World} {v : Value} {l : List Fd} (h : RowB B wa w v l) (hw : wa.heap.size ≤ w.heap.size) (o : Obj) : RowB B wa (w.alloc o) v l :=
  ⟨h.1.alloc o, h.2.alloc hw o⟩
theorem rowB_nil (B : Nat) (wa w : World) (hb : Below wa.heap.size wa w) : RowB B wa w (.slice none 0 0) [] := ⟨World.ownsRow_nil _ _ _ _, hb⟩
/-- Cells of a box stand while a row that is not in it grows. -/
theorem Cell3.grown {w w' : World} {b : Nat} {v0 v1 v2 : Value} {row : Option Nat} (h : Cell3 w b v0 v1 v2) (hg : w.grownBy w' row) (hne : some b ≠ row) : Cell3 w' b v0 v1 v2 :=
  ⟨Nat.lt_of_lt_of_le h.lt hg.size, hg.cell h.c0 hne, hg.cell h.c1 hne, hg.cell h.c2 hne, fun i hi => (World.frozen?_of_block (a := ⟨b, i, none⟩) (hg.block b h.lt hne)).trans (h.f i hi)⟩
/-- One field in a new box, appended to a row that lies from block B on. -/
theorem field_pushB {B : Nat} {wa w : World} {v : Value} {l : List Fd} {ops : Array Oper} {rest : List Oper} {o : Oper} {a : Act} {Q : Exit → Act → World → Prop} (hO : RowB B wa w v l) (hwa : wa.heap.size ≤ B) (hB : B ≤ w.heap.size) (hgd : o.guard = none) (s x : Operand)
    (ho : o.op = .call { callee := .builtin .append, args := #[s, x], argTypes := #[22, 22] }) (hs : a.eval s = v) (m : Fd) (arr : Array Value) (Te : TypeId) (c : Nat)
    {b : Nat} (hx : a.eval x = .slice (some ⟨b, 0, none⟩) 1 c) (hb : b = w.heap.size) (harr : arr = #[.string m.1, .string m.2]) (hl : l.length ≤ 1000000000)
    (h : ∀ v' w', RowB B wa w' v' (l ++ [m]) → (w.alloc (.cells arr Te)).grownBy w' v.ownBlock → wpList Tryz.prog ops Q rest (a.put o.dst v') w') : wpList Tryz.prog ops Q (o :: rest) a (w.alloc (.cells arr Te)) := by
  obtain ⟨i0, hi, hz0, hz1, hz2⟩ := info_parts iFd
  subst harr
  subst hb
  have hO2 := hO.alloc (Nat.le_trans hwa hB) (.cells #[.string m.1, .string m.2] Te)
  refine wpList_append_own _ hgd s x 22 ho B 44 i0 (.agg #[.string ⟨#[]⟩, .string ⟨#[]⟩]) 2 32 Tryz.underlying22 hi hz0 hz1 hz2 rfl (by decide) v l.length (cellsF l) hs hO2.1 ⟨w.heap.size, 0, none⟩ 1 c [.string m.1, .string m.2] hx rfl ?_ ?_ (by unfold maxLen; omega) (by omega) (by simp; omega) ?_
  · intro j u hj
    rw [Addr.add_lit, Nat.zero_add, World.cell?_alloc_new]
    simpa using hj
  · intro u hu
    simp only [List.mem_cons, List.not_mem_nil, or_false] at hu
    rcases hu with rfl | rfl <;> rfl
  · intro v' w' hr hg _
    refine h v' w' ⟨?_, hO2.2.grown hg (by simp; omega) (fun k hk => by have := (hO.lt k hk).1; omega)⟩ hg
    rw [List.length_append, cellsF_app]
    exact hr
end Go.Proofs.YtfljonmfkjblhaaGreatDoor.Ia
