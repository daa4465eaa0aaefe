/- Dues as they lie; rows of dues that grow. No condition but bounds. -/
import Derived.Test.YtmjlhmohglbecaaGreatDoorEd1
import Derived.Lib.AppendZeros
namespace Go.Proofs.YtmjlhmohglbecaaGreatDoor.Ea
open Go.ChangeShapes Go.WideShapes Go.ChangeAt Go.RowKit
theorem grow_of0 {w w' : World} (hb : Below w.heap.size w w') : w.grownBy w' none := ⟨hb.os, hb.tape, hb.output, hb.size, fun k hk _ => hb.block k hk⟩
/-- The fields l lie at a. -/
def InD (w : World) (a : Option Addr) (l : List Du) : Prop := 0 < l.length → ∃ b o, a = some ⟨b, o, none⟩ ∧ b < w.heap.size ∧ ∀ i (h : i < l.length), w.cell? ⟨b, o + i * 2, none⟩ = some (.int .i64 l[i].1) ∧ w.cell? ⟨b, o + i * 2 + 1, none⟩ = some (.string l[i].2)
theorem InD.below {B : Nat} {w w' : World} {a : Option Addr} {l : List Du} (h : InD w a l) (hB : w.heap.size ≤ B) (hb : Below B w w') : InD w' a l := fun hp => by
  obtain ⟨b, o, rfl, hlt, hc⟩ := h hp
  refine ⟨b, o, rfl, Nat.lt_of_lt_of_le hlt hb.size, fun i hi => ?_⟩
  have e : ∀ j, w'.cell? ⟨b, j, none⟩ = w.cell? ⟨b, j, none⟩ := fun j => hb.cell (p := ⟨b, j, none⟩) (Nat.lt_of_lt_of_le hlt hB)
  rw [e, e]
  exact hc i hi
theorem InD.nil (w : World) (a : Option Addr) : InD w a [] := fun h => absurd h (Nat.lt_irrefl _)
def cellsD (l : List Du) : List Value := l.flatMap fun m => [.int .i64 m.1, .string m.2]
theorem cellsD_len (l : List Du) : (cellsD l).length = l.length * 2 := by
  induction l with
  | nil => rfl
  | cons m l ih => simp only [cellsD, List.flatMap_cons, List.length_append, List.length_cons, List.length_nil] at ih ⊢; omega
theorem cellsD_app (l r : List Du) : cellsD (l ++ r) = cellsD l ++ cellsD r := by simp [cellsD]
theorem cellsD_at (l : List Du) : ∀ i (hi : i < l.length), (cellsD l)[i * 2]? = some (.int .i64 l[i].1) ∧ (cellsD l)[i * 2 + 1]? = some (.string l[i].2) := by
  induction l with
  | nil => intro i hi; simp at hi
  | cons m l ih =>
    intro i hi
    cases i with
    | zero => exact ⟨rfl, rfl⟩
    | succ i =>
      have h := ih i (by simpa using hi)
      have e1 : (i + 1) * 2 = i * 2 + 2 := by omega
      have e2 : (i + 1) * 2 + 1 = i * 2 + 1 + 2 := by omega
      rw [e1, show i * 2 + 2 + 1 = i * 2 + 1 + 2 by omega]
      exact h
theorem cellsD_one (l : List Du) : ∀ u ∈ cellsD l, u.oneCell' = true := by
  intro u hu
  unfold cellsD at hu
  obtain ⟨m, -, hm⟩ := List.mem_flatMap.1 hu
  simp only [List.mem_cons, List.not_mem_nil, or_false] at hm
  rcases hm with rfl | rfl <;> rfl
/-- The cells of fields that lie somewhere, one by one. -/
theorem InD.news {w : World} {a : Option Addr} {l : List Du} (h : InD w a l) (hp : 0 < l.length) : ∃ ad, a = some ad ∧ ∀ j u, (cellsD l)[j]? = some u → w.cell? (ad.add j) = some u := by
  obtain ⟨b, o, rfl, -, hc⟩ := h hp
  refine ⟨_, rfl, fun j u hj => ?_⟩
  rw [Addr.add_lit]
  have hjl : j < l.length * 2 := by
    have h0 := (List.getElem?_eq_some_iff.1 hj).1
    rwa [cellsD_len] at h0
  have hi : j / 2 < l.length := by omega
  obtain ⟨c0, c1⟩ := hc (j / 2) hi
  obtain ⟨d0, d1⟩ := cellsD_at l (j / 2) hi
  rcases Nat.mod_two_eq_zero_or_one j with e | e
  · have e2 : j / 2 * 2 = j := by omega
    rw [e2] at c0 d0
    rw [c0]
    exact d0.symm.trans hj
  · have e2 : j / 2 * 2 + 1 = j := by omega
    rw [e2] at d1
    have e3 : o + j / 2 * 2 + 1 = o + j := by omega
    rw [e3] at c1
    rw [c1]
    exact d1.symm.trans hj
theorem iDue : (Tryz.prog.info? 145).map (fun i => (i.zero, i.size, i.bytes)) = some (some (.agg #[.int .i64 0, .string ⟨#[]⟩]), 2, 24) := by kernel_rfl
/-- The fields l in a row v of the call's own, made behind the world wb; of wb all stands. -/
structure RowD (wb w : World) (v : Value) (l : List Du) : Prop where
  row : w.ownsRow wb.heap.size 145 2 v l.length (cellsD l)
  bel : Below wb.heap.size wb w
theorem RowD.below {wb w w' : World} {v : Value} {l : List Du} (h : RowD wb w v l) (hb : Below w.heap.size w w') : RowD wb w' v l :=
  ⟨h.row.kept (grow_of0 hb) (by cases hv : v.ownBlock <;> simp), h.bel.trans (hb.mono h.bel.size)⟩
theorem rowD_nil (wb w : World) (hb : Below wb.heap.size wb w) : RowD wb w (.slice none 0 0) [] := ⟨World.ownsRow_nil _ _ _ _, hb⟩
theorem RowD.slice {wb w : World} {v : Value} {l : List Du} (h : RowD wb w v l) : ∃ a c, v = .slice a l.length c ∧ l.length ≤ c ∧ c ≤ 9223372036854775807 ∧ InD w a l := by
  rcases h.row.2 with ⟨rfl, hn⟩ | ⟨g, cap, cur, rfl, hg, hh, h1, h2, h3, h4⟩
  · exact ⟨none, 0, by rw [hn], by omega, Nat.zero_le _, fun hp => absurd hp (by omega)⟩
  · refine ⟨some ⟨g, 0, none⟩, cap, rfl, h1, by unfold maxLen at h2; omega, fun _ => ⟨g, 0, rfl, (Array.getElem?_eq_some_iff.1 hh).1, fun i hi => ?_⟩⟩
    rw [Nat.zero_add]
    constructor
    · have e1 : (cur.toList.take (l.length * 2))[i * 2]? = cur.toList[i * 2]? := List.getElem?_take_of_lt (by omega)
      rw [h4, (cellsD_at l i hi).1] at e1
      simp only [World.cell?, hh]
      simpa using e1.symm
    · have e1 : (cur.toList.take (l.length * 2))[i * 2 + 1]? = cur.toList[i * 2 + 1]? := List.getElem?_take_of_lt (by omega)
      rw [h4, (cellsD_at l i hi).2] at e1
      simp only [World.cell?, hh]
      simpa using e1.symm
/-- Fields that lie somewhere, appended to a row; nothing, too. -/
theorem dues_push {wb w : World} {v : Value} {l : List Du} {ops : Array Oper} {rest : List Oper} {o : Oper} {a : Act} {Q : Exit → Act → World → Prop} (hO : RowD wb w v l) (hgd : o.guard = none) (s x : Operand)
    (ho : o.op = .call { callee := .builtin .append, args := #[s, x], argTypes := #[155, 155] }) (hs : a.eval s = v) (r : List Du) (c : Nat)
    {xa : Option Addr} {n : Nat} (hx : a.eval x = .slice xa n c) (hn : n = r.length) (hI : InD w xa r) (hl : l.length ≤ 1000000000) (hr : r.length ≤ 1000000000)
    (h : ∀ v' w', RowD wb w' v' (l ++ r) → w.grownBy w' v.ownBlock → wpList Tryz.prog ops Q rest (a.put o.dst v') w') : wpList Tryz.prog ops Q (o :: rest) a w := by
  obtain ⟨i0, hi, hz0, hz1, hz2⟩ := info_parts iDue
  subst hn
  by_cases hp : 0 < r.length
  · obtain ⟨ad, rfl, hnews⟩ := hI.news hp
    refine wpList_append_own _ hgd s x 155 ho wb.heap.size 145 i0 (.agg #[.int .i64 0, .string ⟨#[]⟩]) 2 24 Tryz.underlying155 hi hz0 hz1 hz2 rfl (by decide) v l.length (cellsD l) hs hO.row ad r.length c (cellsD r) hx (cellsD_len r) hnews (cellsD_one r) (by unfold maxLen; omega) (by omega) hO.bel.size ?_
    intro v' w' hr2 hg _
    refine h v' w' ⟨?_, hO.bel.grown hg hO.bel.size (fun k hk => (hO.row.lt k hk).1)⟩ hg
    rw [List.length_append, cellsD_app]
    exact hr2
  · obtain rfl : r = [] := List.eq_nil_of_length_eq_zero (by omega)
    have ht : Tryz.prog.underlying 155 = some (.slice 145) := Tryz.underlying155
    obtain ⟨sa, sc, rfl, hsc, -, -⟩ := hO.slice
    have hsn : sa = none → sc = 0 := by
      rintro rfl
      rcases hO.row.2 with ⟨e, -⟩ | ⟨g, cap, cur, e, -⟩
      · injection e
      · cases e
    refine wpList_plain hgd fun K hK => ?_
    have hrun : (Builtin.append_ #[155, 155] o.type #[.slice sa l.length sc, .slice xa 0 c]).run Tryz.prog w = .ok (.slice sa l.length sc) w := by
      cases sa with
      | none =>
        obtain rfl : sc = 0 := hsn rfl
        have hl0 : l.length = 0 := by omega
        rw [hl0]
        cases xa <;> simp [Builtin.append_, run_underlying ht, sizeOf, typeInfo, hi, Builtin.lenOf, Builtin.firstCells, loadCells, loadCellsFrom]
      | some sa =>
        cases xa <;> simp [Builtin.append_, run_underlying ht, sizeOf, typeInfo, hi, Builtin.lenOf, Builtin.firstCells, loadCells, loadCellsFrom, hsc, storeCells]
    unfold Oper.wp
    simp [execOp, ho, resolve, invoke, builtin, hs, hx, hrun, Result.andThen]
    refine hK _ _ (h _ w (by rw [List.append_nil]; exact hO) ⟨rfl, rfl, rfl, Nat.le_refl _, fun _ _ _ => rfl⟩)
/-- One due in a new box, appended to a row. -/
theorem due_push {wb w : World} {v : Value} {l : List Du} {ops : Array Oper} {rest : List Oper} {o : Oper} {a : Act} {Q : Exit → Act → World → Prop} (hO : RowD wb w v l) (hgd : o.guard = none) (s x : Operand)
    (ho : o.op = .call { callee := .builtin .append, args := #[s, x], argTypes := #[155, 155] }) (hs : a.eval s = v) (m : Du) (arr : Array Value) (Te : TypeId) (c : Nat)
    {b : Nat} (hx : a.eval x = .slice (some ⟨b, 0, none⟩) 1 c) (hb : b = w.heap.size) (harr : arr = #[.int .i64 m.1, .string m.2]) (hl : l.length ≤ 1000000000)
    (h : ∀ v' w', RowD wb w' v' (l ++ [m]) → (w.alloc (.cells arr Te)).grownBy w' v.ownBlock → wpList Tryz.prog ops Q rest (a.put o.dst v') w') : wpList Tryz.prog ops Q (o :: rest) a (w.alloc (.cells arr Te)) := by
  subst harr
  subst hb
  refine dues_push (hO.below (bbox _)) hgd s x ho hs [m] c hx rfl (fun _ => ⟨_, 0, rfl, by simp, fun i hi => ?_⟩) hl (by simp) h
  obtain rfl : i = 0 := by simpa using hi
  refine ⟨?_, ?_⟩ <;> rw [World.cell?_alloc_new] <;> rfl
/-- The same, where the row lies beside what else has been made, and where the new one lies. -/
theorem due_push2 {B : Nat} {w : World} {v : Value} {l : List Du} {ops : Array Oper} {rest : List Oper} {o : Oper} {a : Act} {Q : Exit → Act → World → Prop} (hO : w.ownsRow B 145 2 v l.length (cellsD l)) (hB : B ≤ w.heap.size) (hgd : o.guard = none) (s x : Operand)
    (ho : o.op = .call { callee := .builtin .append, args := #[s, x], argTypes := #[155, 155] }) (hs : a.eval s = v) (m : Du) (Te : TypeId) (hx : a.eval x = .slice (some ⟨w.heap.size, 0, none⟩) 1 1) (hl : l.length ≤ 1000000000)
    (h : ∀ v' w', w'.ownsRow B 145 2 v' (l.length + 1) (cellsD (l ++ [m])) → (w.alloc (.cells #[.int .i64 m.1, .string m.2] Te)).grownBy w' v.ownBlock → (v'.ownBlock = v.ownBlock ∨ v'.ownBlock = some (w.heap.size + 1)) → wpList Tryz.prog ops Q rest (a.put o.dst v') w') : wpList Tryz.prog ops Q (o :: rest) a (w.alloc (.cells #[.int .i64 m.1, .string m.2] Te)) := by
  obtain ⟨i0, hi, hz0, hz1, hz2⟩ := info_parts iDue
  have hO2 := hO.kept (World.grownBy_alloc w (.cells #[.int .i64 m.1, .string m.2] Te) none) (by cases v.ownBlock <;> simp)
  refine wpList_append_own_at _ hgd s x 155 ho B 145 i0 (.agg #[.int .i64 0, .string ⟨#[]⟩]) 2 24 Tryz.underlying155 hi hz0 hz1 hz2 rfl (by decide) v l.length (cellsD l) hs hO2 ⟨w.heap.size, 0, none⟩ 1 1 [.int .i64 m.1, .string m.2] hx rfl
    (fun j u hj => by rw [Addr.add_lit, Nat.zero_add, World.cell?_alloc_new]; simpa using hj)
    (cellsD_one [m]) (by unfold maxLen; omega) (by omega) (by simp; omega) ?_
  intro v' w' r1 r2 _ r3
  exact h v' w' (by rw [cellsD_app]; exact r1) r2 (by simpa using r3)
end Go.Proofs.YtmjlhmohglbecaaGreatDoor.Ea
