/- Texts as they lie; rows of texts that grow, sorted, each once; parts behind parts. No condition but bounds. -/
import Derived.Test.YtjpbpdjomfkkeaaGreatDoorChecked
import Derived.Test.YtjpbpdjomfkkeaaGreatDoorMa2
import Derived.Test.YtjpbpdjomfkkeaaGreatDoorSp3
import Derived.Sort.Row
import Derived.Laws.AppendOwn
import Derived.Laws.AppendOwnNone
namespace Go.Proofs.YtjpbpdjomfkkeaaGreatDoor.Ma
set_option linter.unusedVariables false
set_option linter.unusedSimpArgs false
open Go.ChangeShapes Go.WideShapes Go.ChangeAt Go.RowKit
open Go.Proofs.YtjpbpdjomfkkeaaGreatDoor.Sp (bstep bbox)
theorem grow_of0 {w w' : World} (hb : Below w.heap.size w w') : w.grownBy w' none := ⟨hb.os, hb.tape, hb.output, hb.size, fun k hk _ => hb.block k hk⟩
theorem bdr (w : World) (n : Nat) : Below w.heap.size w (w.drewN n) := ⟨rfl, rfl, rfl, Nat.le_refl _, fun _ _ => rfl⟩
/-- The texts l lie at a. -/
def InS (w : World) (a : Option Addr) (l : List BA) : Prop := 0 < l.length → ∃ b o, a = some ⟨b, o, none⟩ ∧ b < w.heap.size ∧ ∀ i (h : i < l.length), w.cell? ⟨b, o + i, none⟩ = some (.string l[i])
theorem InS.below {B : Nat} {w w' : World} {a : Option Addr} {l : List BA} (h : InS w a l) (hB : w.heap.size ≤ B) (hb : Below B w w') : InS w' a l := fun hp => by
  obtain ⟨b, o, e, hlt, hc⟩ := h hp
  exact ⟨b, o, e, Nat.lt_of_lt_of_le hlt hb.size, fun i hi => (hb.cell (p := ⟨b, o + i, none⟩) (Nat.lt_of_lt_of_le hlt hB)).trans (hc i hi)⟩
theorem InS.bel {w w' : World} {a : Option Addr} {l : List BA} (h : InS w a l) (hb : Below w.heap.size w w') : InS w' a l := h.below (Nat.le_refl _) hb
theorem InS.nil (w : World) (a : Option Addr) : InS w a [] := fun h => absurd h (Nat.lt_irrefl _)
def cellsS (l : List BA) : List Value := l.map .string
theorem cellsS_len (l : List BA) : (cellsS l).length = l.length * 1 := by simp [cellsS]
theorem iStr : (Tryz.prog.info? 9).map (fun i => (i.zero, i.size, i.bytes)) = some (some (.string ⟨#[]⟩), 1, 16) := by kernel_rfl
/-- The texts l in a row v of the call's own, made behind the world wb; of wb all stands. -/
structure RowS (wb w : World) (v : Value) (l : List BA) : Prop where
  row : w.ownsRow wb.heap.size 9 1 v l.length (cellsS l)
  bel : Below wb.heap.size wb w
theorem RowS.below {wb w w' : World} {v : Value} {l : List BA} (h : RowS wb w v l) (hb : Below w.heap.size w w') : RowS wb w' v l :=
  ⟨h.row.kept (grow_of0 hb) (by cases hv : v.ownBlock <;> simp), h.bel.trans (hb.mono h.bel.size)⟩
theorem rowS_nil {wb w : World} (hb : Below wb.heap.size wb w) : RowS wb w (.slice none 0 0) [] := ⟨World.ownsRow_nil _ _ _ _, hb⟩
theorem rowS_made (w : World) : RowS w (w.alloc (.cells #[] 9)) (.slice (some ⟨w.heap.size, 0, none⟩) 0 0) [] := ⟨World.ownsRow_made w #[] 0 (Nat.le_refl _) (Nat.zero_le _) rfl, bbox _⟩
theorem RowS.over {wa wb w : World} {v : Value} {l : List BA} (h : RowS wb w v l) (hb : Below wa.heap.size wa wb) : RowS wa w v l := by
  refine ⟨⟨h.row.1, ?_⟩, hb.trans (h.bel.mono hb.size)⟩
  rcases h.row.2 with h | ⟨g, cap, cur, h1, h2, h3⟩
  · exact Or.inl h
  · exact Or.inr ⟨g, cap, cur, h1, Nat.le_trans hb.size h2, h3⟩
theorem RowS.slice {wb w : World} {v : Value} {l : List BA} (h : RowS wb w v l) : ∃ a c, v = .slice a l.length c ∧ l.length ≤ c ∧ c ≤ 9223372036854775807 ∧ (a = none → c = 0) ∧ InS w a l := by
  rcases h.row.2 with ⟨rfl, hn⟩ | ⟨g, cap, cur, rfl, hg, hh, h1, h2, h3, h4⟩
  · exact ⟨none, 0, by rw [hn], by omega, Nat.zero_le _, fun _ => rfl, fun h => by omega⟩
  · refine ⟨some ⟨g, 0, none⟩, cap, rfl, h1, by unfold maxLen at h2; omega, (fun h => by cases h), fun _ => ⟨g, 0, rfl, (Array.getElem?_eq_some_iff.1 hh).1, fun i hi => ?_⟩⟩
    have e1 : (cur.toList.take (l.length * 1))[i]? = cur.toList[i]? := List.getElem?_take_of_lt (by omega)
    rw [h4] at e1
    have e2 : (cellsS l)[i]? = some (.string l[i]) := by simp [cellsS, hi]
    rw [e2] at e1
    simp only [World.cell?, hh, Nat.zero_add]
    simpa using e1.symm
/-- The texts r appended to a row's. -/
theorem str_push {wb w : World} {v : Value} {l : List BA} {ops : Array Oper} {rest : List Oper} {o : Oper} {a : Act} {Q : Exit → Act → World → Prop} (hO : RowS wb w v l) (hgd : o.guard = none) (s x : Operand)
    (ho : o.op = .call { callee := .builtin .append, args := #[s, x], argTypes := #[22, 22] }) (hs : a.eval s = v) (r : List BA) (c : Nat)
    {n : Nat} {ad : Option Addr} (hx : a.eval x = .slice ad n c) (hn : n = r.length) (hI : InS w ad r) (hl : l.length ≤ 1000000000) (hr : r.length ≤ 1000000000) (hnil : ad = none → n = 0 ∧ c = 0)
    (h : ∀ v' w', RowS wb w' v' (l ++ r) → wpList Tryz.prog ops Q rest (a.put o.dst v') w') : wpList Tryz.prog ops Q (o :: rest) a w := by
  obtain ⟨i0, hi, hz0, hz1, hz2⟩ := info_parts iStr
  subst hn
  by_cases hp : 0 < r.length
  · obtain ⟨b, p, rfl, hlt, hc⟩ := hI hp
    refine wpList_append_own _ hgd s x 22 ho wb.heap.size 9 i0 (.string ⟨#[]⟩) 1 16 Tryz.underlying22 hi hz0 hz1 hz2 rfl (by decide) v l.length (cellsS l) hs hO.row ⟨b, p, none⟩ r.length c (cellsS r) hx (cellsS_len r) ?_ ?_ (by unfold maxLen; omega) (by omega) hO.bel.size ?_
    · intro j u hj
      rw [Addr.add_lit]
      have hjr : j < r.length := by
        have h0 := (List.getElem?_eq_some_iff.1 hj).1
        rw [cellsS_len] at h0
        omega
      rw [hc j hjr, ← hj]
      simp [cellsS, hjr]
    · intro u hu
      obtain ⟨y, -, rfl⟩ := List.mem_map.1 hu
      rfl
    · intro v' w' hr2 hg _
      refine h v' w' ⟨?_, hO.bel.grown hg hO.bel.size (fun k hk => (hO.row.lt k hk).1)⟩
      rw [List.length_append, show cellsS (l ++ r) = cellsS l ++ cellsS r from List.map_append]
      exact hr2
  · have hz : r.length = 0 := by omega
    have hr0 : r = [] := List.length_eq_zero_iff.1 hz
    subst hr0
    rw [List.append_nil] at h
    cases ad with
    | some ad =>
      refine wpList_append_own _ hgd s x 22 ho wb.heap.size 9 i0 (.string ⟨#[]⟩) 1 16 Tryz.underlying22 hi hz0 hz1 hz2 rfl (by decide) v l.length (cellsS l) hs hO.row ad 0 c [] hx rfl (fun j u hj => by simp at hj) (fun u hu => by cases hu) (by unfold maxLen; omega) (by omega) hO.bel.size ?_
      intro v' w' hr2 hg _
      refine h v' w' ⟨?_, hO.bel.grown hg hO.bel.size (fun k hk => (hO.row.lt k hk).1)⟩
      rw [List.append_nil] at hr2
      exact hr2
    | none =>
      obtain ⟨-, rfl⟩ := hnil rfl
      exact wpList_append_own_none hgd s x 22 ho wb.heap.size 9 i0 1 Tryz.underlying22 hi v l.length (cellsS l) hs hO.row hx (h v w hO)
end Go.Proofs.YtjpbpdjomfkkeaaGreatDoor.Ma
