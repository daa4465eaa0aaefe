/- Rows of strings that grow; the checking package's Drop, Touch, Oldest, Has of layer 10, and Same of layer 6. No condition but bounds. -/
import Derived.Test.YtkpcobaklbfpcaaCa7
namespace Go.Proofs.Ytkpcobaklbfpcaa.Ca
open Go.ChangeShapes Go.WideShapes Go.ChangeAt Go.RowKit
theorem grow_of0 {w w' : World} (hb : Below w.heap.size w w') : w.grownBy w' none := ⟨hb.os, hb.tape, hb.output, hb.size, fun k hk _ => hb.block k hk⟩
def cellsT (l : List ByteArray) : List Value := l.map .string
theorem cellsT_len (l : List ByteArray) : (cellsT l).length = l.length * 1 := by simp [cellsT]
theorem iStr : (Try.prog.info? 9).map (fun i => (i.zero, i.size, i.bytes)) = some (some (.string ⟨#[]⟩), 1, 16) := by kernel_rfl
/-- The strings l in a row v of the call's own, made behind the world wb; of wb all stands. -/
structure RowT (wb w : World) (v : Value) (l : List ByteArray) : Prop where
  row : w.ownsRow wb.heap.size 9 1 v l.length (cellsT l)
  bel : Below wb.heap.size wb w
theorem RowT.below {wb w w' : World} {v : Value} {l : List ByteArray} (h : RowT wb w v l) (hb : Below w.heap.size w w') : RowT wb w' v l :=
  ⟨h.row.kept (grow_of0 hb) (by cases hv : v.ownBlock <;> simp), h.bel.trans (hb.mono h.bel.size)⟩
/-- .. with room for c strings, at a world that w has grown to. -/
theorem rowT_made2 {w0 w : World} (hb : Below w0.heap.size w0 w) (cur : Array Value) (c : Nat) (hc : c ≤ 1000000000) (hs : cur.size = c * 1) : RowT w0 (w.alloc (.cells cur 9)) (.slice (some ⟨w.heap.size, 0, none⟩) 0 c) [] :=
  ⟨World.ownsRow_made w cur c hb.size (by unfold maxLen; omega) hs, hb.alloc hb.size _⟩
theorem rowT_made (w : World) : RowT w (w.alloc (.cells #[] 9)) (.slice (some ⟨w.heap.size, 0, none⟩) 0 0) [] := ⟨World.ownsRow_made w #[] 0 (Nat.le_refl _) (Nat.zero_le _) rfl, bbox _⟩
theorem RowT.over {wa wb w : World} {v : Value} {l : List ByteArray} (h : RowT wb w v l) (hb : Below wa.heap.size wa wb) : RowT wa w v l := by
  refine ⟨⟨h.row.1, ?_⟩, hb.trans (h.bel.mono hb.size)⟩
  rcases h.row.2 with h | ⟨g, cap, cur, h1, h2, h3⟩
  · exact Or.inl h
  · exact Or.inr ⟨g, cap, cur, h1, Nat.le_trans hb.size h2, h3⟩
/-- The strings l lie at a. -/
def InT (w : World) (a : Option Addr) (l : List ByteArray) : Prop := ∀ i (hi : i < l.length), ∃ g, a = some ⟨g, 0, none⟩ ∧ w.cell? ⟨g, i, none⟩ = some (.string l[i])
theorem InT.below {w w' : World} {a : Option Addr} {l : List ByteArray} (h : InT w a l) (hb : Below w.heap.size w w') : InT w' a l := fun i hi => by
  obtain ⟨g, e, h1⟩ := h i hi
  exact ⟨g, e, (hb.cell (p := ⟨g, i, none⟩) (World.block_lt_of_cell? w _ h1)).trans h1⟩
/-- Where a row's strings lie: nowhere, or in a block of the call's own. -/
def Own (b : Nat) (a : Option Addr) (l : List ByteArray) : Prop := 0 < l.length → ∃ g, a = some ⟨g, 0, none⟩ ∧ b ≤ g
theorem RowT.slice {wb w : World} {v : Value} {l : List ByteArray} (h : RowT wb w v l) : ∃ a c, v = .slice a l.length c ∧ l.length ≤ c ∧ c ≤ 9223372036854775807 ∧ InT w a l ∧ Own wb.heap.size a l := by
  rcases h.row.2 with ⟨rfl, hn⟩ | ⟨g, cap, cur, rfl, hg, hh, h1, h2, h3, h4⟩
  · exact ⟨none, 0, by rw [hn], by omega, Nat.zero_le _, fun i hi => absurd hi (by omega), fun h => absurd h (by omega)⟩
  · refine ⟨some ⟨g, 0, none⟩, cap, rfl, h1, by unfold maxLen at h2; omega, fun i hi => ⟨g, rfl, ?_⟩, fun _ => ⟨g, rfl, hg⟩⟩
    have e1 : (cur.toList.take (l.length * 1))[i]? = cur.toList[i]? := List.getElem?_take_of_lt (by omega)
    rw [h4] at e1
    have e2 : (cellsT l)[i]? = some (.string l[i]) := by simp [cellsT, hi]
    rw [e2] at e1
    simp only [World.cell?, hh]
    simpa using e1.symm
/-- The strings r appended to a row's. -/
theorem str_push {wb w : World} {v : Value} {l : List ByteArray} {ops : Array Oper} {rest : List Oper} {o : Oper} {a : Act} {Q : Exit → Act → World → Prop} (hO : RowT wb w v l) (hgd : o.guard = none) (s x : Operand)
    (ho : o.op = .call { callee := .builtin .append, args := #[s, x], argTypes := #[44, 44] }) (hs : a.eval s = v) (r : List ByteArray) (c : Nat)
    {b n : Nat} (hx : a.eval x = .slice (some ⟨b, 0, none⟩) n c) (hn : n = r.length) (hI : InT w (some ⟨b, 0, none⟩) r) (hl : l.length ≤ 1000000000) (hr : r.length ≤ 1000000000)
    (h : ∀ v' w', RowT wb w' v' (l ++ r) → wpList Try.prog ops Q rest (a.put o.dst v') w') : wpList Try.prog ops Q (o :: rest) a w := by
  obtain ⟨i0, hi, hz0, hz1, hz2⟩ := info_parts iStr
  subst hn
  refine wpList_append_own _ hgd s x 44 ho wb.heap.size 9 i0 (.string ⟨#[]⟩) 1 16 Try.underlying44 hi hz0 hz1 hz2 rfl (by decide) v l.length (cellsT l) hs hO.row ⟨b, 0, none⟩ r.length c (cellsT r) hx (cellsT_len r) ?_ ?_ (by unfold maxLen; omega) (by omega) hO.bel.size ?_
  · intro j u hj
    rw [Addr.add_lit, Nat.zero_add]
    have hjr : j < r.length := by
      have h0 := (List.getElem?_eq_some_iff.1 hj).1
      rw [cellsT_len] at h0
      omega
    obtain ⟨g, e, hc⟩ := hI j hjr
    cases e
    rw [hc, ← hj]
    simp [cellsT, hjr]
  · intro u hu
    obtain ⟨y, -, rfl⟩ := List.mem_map.1 hu
    rfl
  · intro v' w' hr2 hg _
    refine h v' w' ⟨?_, hO.bel.grown hg hO.bel.size (fun k hk => (hO.row.lt k hk).1)⟩
    rw [List.length_append, show cellsT (l ++ r) = cellsT l ++ cellsT r from List.map_append]
    exact hr2
theorem inT_new (w : World) (s : ByteArray) (T : TypeId) : InT (w.alloc (.cells #[.string s] T)) (some ⟨w.heap.size, 0, none⟩) [s] := by
  intro i hi
  obtain rfl : i = 0 := by simpa using hi
  exact ⟨w.heap.size, rfl, by rw [World.cell?_alloc_new]; rfl⟩
theorem dropK_take {k : ByteArray} {l : List ByteArray} {j : Nat} (hj : j < l.length) : dropK k (l.take (j + 1)) = dropK k (l.take j) ++ (if l[j] = k then [] else [l[j]]) := by
  unfold dropK
  rw [← List.take_append_getElem hj, List.filter_append]
  congr 1
  by_cases h : l[j] = k <;> simp [h]
theorem dropK_le (k : ByteArray) (l : List ByteArray) : (dropK k l).length ≤ l.length := List.length_filter_le _ _
theorem dropK_lt (k : ByteArray) (l : List ByteArray) : decide ((dropK k l).length < l.length) = inK k l := by
  cases h : inK k l with
  | true => exact decide_eq_true (by have := (dropK_len k l).2 (inK_iff.1 h); omega)
  | false => exact decide_eq_false (fun hc => inK_false.1 h ((dropK_len k l).1 (by omega)))
theorem take_but {l : List ByteArray} {but : ByteArray} {j : Nat} (hj : j < l.length) (h : ∀ m (hm : m < l.length), m < j → l[m] = but) (e : l[j] = but) : ∀ m (hm : m < l.length), m < j + 1 → l[m] = but := fun m hm hlt => by
  by_cases hmj : m = j
  · subst hmj; exact e
  · exact h m hm (by omega)
theorem same_take {l r : List ByteArray} {j : Nat} (hl : j < l.length) (hr : j < r.length) (h : l.take j = r.take j) (he : l[j] = r[j]) : l.take (j + 1) = r.take (j + 1) := by
  rw [← List.take_append_getElem hl, ← List.take_append_getElem hr, h, he]
set_option maxHeartbeats 4000000 in
set_option maxRecDepth 100000 in
theorem same_calls (w : World) (a b : Option Addr) (c d : Nat) (l : List ByteArray) (hl : l.length ≤ 1000000) (hI : InT w a l) (hJ : InT w b l) :
    Calls Try.prog 18 #[.slice a l.length c, .slice b l.length d] w fun e w' => e = .returned (.bool true) ∧ Below w.heap.size w w' := by
  have HI := Lib.hid hI
  have HJ := Lib.hid hJ
  clear hI hJ
  go_enter Try.func18, Try.ntmps18
  go_wp2_with fail
  go_loopg [5, 13] (l.length + 1) (fun g _ vi wr => ∃ j : Nat, vi = .int .i64 j ∧ j ≤ l.length ∧ l.length - j ≤ g ∧ Hid (Below w.heap.size w wr))
  case atStart => exact ⟨0, rfl, by omega, by omega, Lib.hid (Below.refl _ _)⟩
  case round =>
    obtain ⟨j, rfl, hj, hg, HB⟩ := hrel
    by_cases hjl : j < l.length
    case pos =>
      have hjc : (j : Int) < (l.length : Int) := by omega
      obtain ⟨g1, rfl, c0⟩ := HI.out.below HB.out j hjl
      obtain ⟨g2, rfl, c1⟩ := HJ.out.below HB.out j hjl
      generalize l[j] = q at *
      go_wp2_with fail
      go_quiet (fail)
      go_wp2_with fail
      go_roundg (gk - 1)
      case measure => omega
      case rel => exact ⟨j + 1, by go_num, by omega, by omega, Lib.hid (HB.out.trans ⟨rfl, rfl, rfl, Nat.le_refl _, fun _ _ => rfl⟩)⟩
    case neg =>
      have hjc : ¬ ((j : Int) < (l.length : Int)) := by omega
      go_wp2_with fail
      go_ret
      exact ⟨rfl, HB.out⟩
end Go.Proofs.Ytkpcobaklbfpcaa.Ca
