/- Fields as they lie; rows of fields that grow; parts behind parts (Grow, Concat at fields). No condition but bounds. -/
import Derived.Test.YtfljonmfkjblhaaGreatDoorIa1
import Derived.Test.YtfljonmfkjblhaaGreatDoorRows
import Derived.WalkKit
import Derived.ProofKit
import Derived.OpenShut
import Derived.WalkSmall
import Derived.WalkSpells
import Derived.WalkLawsBesides
import Derived.Outline
import Derived.Lib.Hide
import Derived.Deep.RegionWith
import Derived.Deep.LoopGhost
import Derived.OwnWalk
import Derived.IntWalk
import Derived.Laws.AppendOwn
import Derived.Laws.IdiomStrings
import Derived.Lib.Strings
import Derived.Lib.AppendZeros
import Derived.Deep.QuietTactic
namespace Go.Proofs.YtfljonmfkjblhaaGreatDoor.Ia
open Go.ChangeShapes Go.WideShapes Go.ChangeAt Go.RowKit
theorem bstep {a b c : World} (h : Below a.heap.size a b) (k : Below b.heap.size b c) : Below a.heap.size a c := h.trans (k.mono h.size)
theorem bbox {w : World} (o : Obj) : Below w.heap.size w (w.alloc o) := (Below.refl _ _).alloc (Nat.le_refl _) o
/-- The fields l lie at a. -/
def InF (w : World) (a : Option Addr) (l : List Fd) : Prop := 0 < l.length → ∃ b o, a = some ⟨b, o, none⟩ ∧ b < w.heap.size ∧ ∀ i (h : i < l.length), w.cell? ⟨b, o + i * 2, none⟩ = some (.string l[i].1) ∧ w.cell? ⟨b, o + i * 2 + 1, none⟩ = some (.string l[i].2)
theorem InF.below {B : Nat} {w w' : World} {a : Option Addr} {l : List Fd} (h : InF w a l) (hB : w.heap.size ≤ B) (hb : Below B w w') : InF w' a l := fun hp => by
  obtain ⟨b, o, rfl, hlt, hc⟩ := h hp
  refine ⟨b, o, rfl, Nat.lt_of_lt_of_le hlt hb.size, fun i hi => ?_⟩
  have e : ∀ j, w'.cell? ⟨b, j, none⟩ = w.cell? ⟨b, j, none⟩ := fun j => hb.cell (p := ⟨b, j, none⟩) (Nat.lt_of_lt_of_le hlt hB)
  rw [e, e]
  exact hc i hi
theorem InF.nil (w : World) (a : Option Addr) : InF w a [] := fun h => absurd h (Nat.lt_irrefl _)
def cellsF (l : List Fd) : List Value := l.flatMap fun m => [.string m.1, .string m.2]
theorem cellsF_len (l : List Fd) : (cellsF l).length = l.length * 2 := by
  induction l with
  | nil => rfl
  | cons m l ih => simp only [cellsF, List.flatMap_cons, List.length_append, List.length_cons, List.length_nil] at ih ⊢; omega
theorem cellsF_app (l r : List Fd) : cellsF (l ++ r) = cellsF l ++ cellsF r := by simp [cellsF]
theorem cellsF_at (l : List Fd) : ∀ i (hi : i < l.length), (cellsF l)[i * 2]? = some (.string l[i].1) ∧ (cellsF l)[i * 2 + 1]? = some (.string l[i].2) := by
  induction l with
  | nil => intro i hi; simp at hi
  | cons m l ih =>
    intro i hi
    cases i with
    | zero => exact ⟨rfl, rfl⟩
    | succ i =>
      have h := ih i (by simpa using hi)
      have e1 : (i + 1) * 2 = i * 2 + 2 := by omega
      have e2 : (i + 1) * 2 + 1 = i * 2 + 1 + 2 := by omega
      rw [e1, show i * 2 + 2 + 1 = i * 2 + 1 + 2 by omega]
      exact h
theorem cellsF_one (l : List Fd) : ∀ u ∈ cellsF l, u.oneCell' = true := by
  intro u hu
  unfold cellsF at hu
  obtain ⟨m, -, hm⟩ := List.mem_flatMap.1 hu
  simp only [List.mem_cons, List.not_mem_nil, or_false] at hm
  rcases hm with rfl | rfl <;> rfl
/-- The cells of fields that lie somewhere, one by one. -/
theorem InF.news {w : World} {a : Option Addr} {l : List Fd} (h : InF w a l) (hp : 0 < l.length) : ∃ ad, a = some ad ∧ ∀ j u, (cellsF l)[j]? = some u → w.cell? (ad.add j) = some u := by
  obtain ⟨b, o, rfl, -, hc⟩ := h hp
  refine ⟨_, rfl, fun j u hj => ?_⟩
  rw [Addr.add_lit]
  have hjl : j < l.length * 2 := by
    have h0 := (List.getElem?_eq_some_iff.1 hj).1
    rwa [cellsF_len] at h0
  have hi : j / 2 < l.length := by omega
  obtain ⟨c0, c1⟩ := hc (j / 2) hi
  obtain ⟨d0, d1⟩ := cellsF_at l (j / 2) hi
  rcases Nat.mod_two_eq_zero_or_one j with e | e
  · have e2 : j / 2 * 2 = j := by omega
    rw [e2] at c0 d0
    rw [c0]
    exact d0.symm.trans hj
  · have e2 : j / 2 * 2 + 1 = j := by omega
    rw [e2] at d1
    have e3 : o + j / 2 * 2 + 1 = o + j := by omega
    rw [e3] at c1
    rw [c1]
    exact d1.symm.trans hj
theorem iFd : (Tryz.prog.info? 44).map (fun i => (i.zero, i.size, i.bytes)) = some (some (.agg #[.string ⟨#[]⟩, .string ⟨#[]⟩]), 2, 32) := by kernel_rfl
/-- The fields l in a row v of the call's own, made behind the world wb; of wb all stands. -/
structure RowF (wb w : World) (v : Value) (l : List Fd) : Prop where
  row : w.ownsRow wb.heap.size 44 2 v l.length (cellsF l)
  bel : Below wb.heap.size wb w
theorem grow_of0 {w w' : World} (hb : Below w.heap.size w w') : w.grownBy w' none := ⟨hb.os, hb.tape, hb.output, hb.size, fun k hk _ => hb.block k hk⟩
theorem RowF.below {wb w w' : World} {v : Value} {l : List Fd} (h : RowF wb w v l) (hb : Below w.heap.size w w') : RowF wb w' v l :=
  ⟨h.row.kept (grow_of0 hb) (by cases hv : v.ownBlock <;> simp), h.bel.trans (hb.mono h.bel.size)⟩
theorem rowF_nil (wb w : World) (hb : Below wb.heap.size wb w) : RowF wb w (.slice none 0 0) [] := ⟨World.ownsRow_nil _ _ _ _, hb⟩
theorem RowF.slice {wb w : World} {v : Value} {l : List Fd} (h : RowF wb w v l) : ∃ a c, v = .slice a l.length c ∧ l.length ≤ c ∧ c ≤ 9223372036854775807 ∧ InF w a l := by
  rcases h.row.2 with ⟨rfl, hn⟩ | ⟨g, cap, cur, rfl, hg, hh, h1, h2, h3, h4⟩
  · exact ⟨none, 0, by rw [hn], by omega, Nat.zero_le _, fun hp => absurd hp (by omega)⟩
  · refine ⟨some ⟨g, 0, none⟩, cap, rfl, h1, by unfold maxLen at h2; omega, fun _ => ⟨g, 0, rfl, (Array.getElem?_eq_some_iff.1 hh).1, fun i hi => ?_⟩⟩
    rw [Nat.zero_add]
    constructor
    · have e1 : (cur.toList.take (l.length * 2))[i * 2]? = cur.toList[i * 2]? := List.getElem?_take_of_lt (by omega)
      rw [h4, (cellsF_at l i hi).1] at e1
      simp only [World.cell?, hh]
      simpa using e1.symm
    · have e1 : (cur.toList.take (l.length * 2))[i * 2 + 1]? = cur.toList[i * 2 + 1]? := List.getElem?_take_of_lt (by omega)
      rw [h4, (cellsF_at l i hi).2] at e1
      simp only [World.cell?, hh]
      simpa using e1.symm
/-- Fields that lie somewhere, appended to a row; nothing, too. -/
theorem fields_push {wb w : World} {v : Value} {l : List Fd} {ops : Array Oper} {rest : List Oper} {o : Oper} {a : Act} {Q : Exit → Act → World → Prop} (hO : RowF wb w v l) (hgd : o.guard = none) (s x : Operand)
    (ho : o.op = .call { callee := .builtin .append, args := #[s, x], argTypes := #[22, 22] }) (hs : a.eval s = v) (r : List Fd) (c : Nat)
    {xa : Option Addr} {n : Nat} (hx : a.eval x = .slice xa n c) (hn : n = r.length) (hI : InF w xa r) (hl : l.length ≤ 1000000000) (hr : r.length ≤ 1000000000)
    (h : ∀ v' w', RowF wb w' v' (l ++ r) → w.grownBy w' v.ownBlock → wpList Tryz.prog ops Q rest (a.put o.dst v') w') : wpList Tryz.prog ops Q (o :: rest) a w := by
  obtain ⟨i0, hi, hz0, hz1, hz2⟩ := info_parts iFd
  subst hn
  by_cases hp : 0 < r.length
  · obtain ⟨ad, rfl, hnews⟩ := hI.news hp
    refine wpList_append_own _ hgd s x 22 ho wb.heap.size 44 i0 (.agg #[.string ⟨#[]⟩, .string ⟨#[]⟩]) 2 32 Tryz.underlying22 hi hz0 hz1 hz2 rfl (by decide) v l.length (cellsF l) hs hO.row ad r.length c (cellsF r) hx (cellsF_len r) hnews (cellsF_one r) (by unfold maxLen; omega) (by omega) hO.bel.size ?_
    intro v' w' hr2 hg _
    refine h v' w' ⟨?_, hO.bel.grown hg hO.bel.size (fun k hk => (hO.row.lt k hk).1)⟩ hg
    rw [List.length_append, cellsF_app]
    exact hr2
  · obtain rfl : r = [] := List.eq_nil_of_length_eq_zero (by omega)
    have ht : Tryz.prog.underlying 22 = some (.slice 44) := Tryz.underlying22
    obtain ⟨sa, sc, rfl, hsc, -, -⟩ := hO.slice
    have hsn : sa = none → sc = 0 := by
      rintro rfl
      rcases hO.row.2 with ⟨e, -⟩ | ⟨g, cap, cur, e, -⟩
      · injection e
      · cases e
    refine wpList_plain hgd fun K hK => ?_
    have hrun : (Builtin.append_ #[22, 22] o.type #[.slice sa l.length sc, .slice xa 0 c]).run Tryz.prog w = .ok (.slice sa l.length sc) w := by
      cases sa with
      | none =>
        obtain rfl : sc = 0 := hsn rfl
        have hl0 : l.length = 0 := by omega
        rw [hl0]
        cases xa <;> simp [Builtin.append_, run_underlying ht, sizeOf, typeInfo, hi, Builtin.lenOf, Builtin.firstCells, loadCells, loadCellsFrom]
      | some sa =>
        cases xa <;> simp [Builtin.append_, run_underlying ht, sizeOf, typeInfo, hi, Builtin.lenOf, Builtin.firstCells, loadCells, loadCellsFrom, hsc, storeCells]
    unfold Oper.wp
    simp [execOp, ho, resolve, invoke, builtin, hs, hx, hrun, Result.andThen]
    refine hK _ _ (h _ w (by rw [List.append_nil]; exact hO) ⟨rfl, rfl, rfl, Nat.le_refl _, fun _ _ _ => rfl⟩)
/-- One field in a new box, appended to a row. -/
theorem field_push {wb w : World} {v : Value} {l : List Fd} {ops : Array Oper} {rest : List Oper} {o : Oper} {a : Act} {Q : Exit → Act → World → Prop} (hO : RowF wb w v l) (hgd : o.guard = none) (s x : Operand)
    (ho : o.op = .call { callee := .builtin .append, args := #[s, x], argTypes := #[22, 22] }) (hs : a.eval s = v) (m : Fd) (arr : Array Value) (Te : TypeId) (c : Nat)
    {b : Nat} (hx : a.eval x = .slice (some ⟨b, 0, none⟩) 1 c) (hb : b = w.heap.size) (harr : arr = #[.string m.1, .string m.2]) (hl : l.length ≤ 1000000000)
    (h : ∀ v' w', RowF wb w' v' (l ++ [m]) → (w.alloc (.cells arr Te)).grownBy w' v.ownBlock → wpList Tryz.prog ops Q rest (a.put o.dst v') w') : wpList Tryz.prog ops Q (o :: rest) a (w.alloc (.cells arr Te)) := by
  subst harr
  subst hb
  refine fields_push (hO.below (bbox _)) hgd s x ho hs [m] c hx rfl (fun _ => ⟨_, 0, rfl, by simp, fun i hi => ?_⟩) hl (by simp) h
  obtain rfl : i = 0 := by simpa using hi
  refine ⟨?_, ?_⟩ <;> rw [World.cell?_alloc_new] <;> rfl
/-- A row that lies in a world, from its cells. -/
theorem InF.of_cells {w : World} {b o : Nat} {l : List Fd} (hb : b < w.heap.size) (h : ∀ i (h : i < l.length), w.cell? ⟨b, o + i * 2, none⟩ = some (.string l[i].1) ∧ w.cell? ⟨b, o + i * 2 + 1, none⟩ = some (.string l[i].2)) : InF w (some ⟨b, o, none⟩) l := fun _ => ⟨b, o, rfl, hb, h⟩
theorem zeros_ok (n c : Nat) (h : n ≤ c) : ((Builtin.zeroCells (Value.agg #[.string ⟨#[]⟩, .string ⟨#[]⟩]).cells n) ++ (Builtin.zeroCells (Value.agg #[.string ⟨#[]⟩, .string ⟨#[]⟩]).cells (c - n))).size = c * 2 := by
  rw [Array.size_append, size_zeroCells, size_zeroCells]
  have : (Value.agg #[.string ⟨#[]⟩, .string ⟨#[]⟩]).cells.size = 2 := rfl
  rw [this]
  omega
set_option maxHeartbeats 4000000 in
set_option maxRecDepth 100000 in
theorem grow_calls (w : World) (n : Nat) (hn : n ≤ 1000000) :
    Calls Tryz.prog 36 #[.slice none 0 0, .int .i64 n] w fun e w' => ∃ v, e = .returned v ∧ RowF w w' v [] := by
  obtain ⟨i0, hi, hz0, hz1, hz2⟩ := info_parts iFd
  go_enter Tryz.func36, Tryz.ntmps36
  by_cases h0 : n = 0
  · subst h0
    go_wp2_with fail
    go_ret
    exact ⟨_, rfl, rowF_nil w w (Below.refl _ _)⟩
  · have hpos : 0 < n := by omega
    have hposc : (0 : Int) < (n : Int) := by omega
    have happ := fun ty => Lib.run_append_nil_zeros (P := Tryz.prog) w 22 3 ty 44 i0 (.agg #[.string ⟨#[]⟩, .string ⟨#[]⟩]) .i64 .i64 Tryz.underlying22 Tryz.underlying3 hi hz0 n hpos (by omega) (by omega) (by rw [hz2]; omega)
    have HC : Hid (n ≤ grownCap w n 0 44 ∧ grownCap w n 0 44 ≤ maxLen) := Lib.hid ⟨grownCap_ge _ _ _ _, grownCap_le_maxLen _ _ _ _ (by unfold maxLen; omega)⟩
    clear hi hz0 hz1 hz2
    generalize grownCap w n 0 44 = c at *
    have hc1 := HC.out.1
    have hc2 : c ≤ 9223372036854775807 := by have := HC.out.2; unfold maxLen at this; omega
    go_wp2_with (at_builtin; refine Lib.wpList_append_run _ rfl _ _ _ _ rfl _ _ rfl rfl _ _ (happ _) ?_)
    go_ret
    refine ⟨_, rfl, ⟨by simp [cellsF], .inr ⟨w.heap.size, c, _, rfl, Nat.le_refl _, heap_alloc_new w.drew _, Nat.zero_le _, HC.out.2, zeros_ok n c hc1, by simp [cellsF]⟩⟩, ?_⟩
    exact (Below.refl _ _).drew.alloc (Nat.le_refl _) _
end Go.Proofs.YtfljonmfkjblhaaGreatDoor.Ia
