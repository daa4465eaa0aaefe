/- Rows of strings that grow; the checking package's add of layer 7. No condition but bounds. -/
import Derived.Test.YtnmncjeplfkdpaaPaA
namespace Go.Proofs.Ytnmncjeplfkdpaa.Pa
open Go.ChangeShapes Go.WideShapes Go.ChangeAt Go.RowKit
def cellsT (l : List ByteArray) : List Value := l.map .string
theorem cellsT_len (l : List ByteArray) : (cellsT l).length = l.length * 1 := by simp [cellsT]
theorem iStr : (Try.prog.info? 9).map (fun i => (i.zero, i.size, i.bytes)) = some (some (.string ⟨#[]⟩), 1, 16) := by kernel_rfl
/-- The strings l in a row v of the call's own, made behind the world wb; of wb all stands. -/
structure RowT (wb w : World) (v : Value) (l : List ByteArray) : Prop where
  row : w.ownsRow wb.heap.size 9 1 v l.length (cellsT l)
  bel : Below wb.heap.size wb w
theorem RowT.below {wb w w' : World} {v : Value} {l : List ByteArray} (h : RowT wb w v l) (hb : Below w.heap.size w w') : RowT wb w' v l :=
  ⟨h.row.kept (grow_of0 hb) (by cases hv : v.ownBlock <;> simp), h.bel.trans (hb.mono h.bel.size)⟩
theorem rowT_made (w : World) : RowT w (w.alloc (.cells #[] 9)) (.slice (some ⟨w.heap.size, 0, none⟩) 0 0) [] := ⟨World.ownsRow_made w #[] 0 (Nat.le_refl _) (Nat.zero_le _) rfl, bbox _⟩
theorem RowT.over {wa wb w : World} {v : Value} {l : List ByteArray} (h : RowT wb w v l) (hb : Below wa.heap.size wa wb) : RowT wa w v l := by
  refine ⟨⟨h.row.1, ?_⟩, hb.trans (h.bel.mono hb.size)⟩
  rcases h.row.2 with h | ⟨g, cap, cur, h1, h2, h3⟩
  · exact Or.inl h
  · exact Or.inr ⟨g, cap, cur, h1, Nat.le_trans hb.size h2, h3⟩
/-- The strings l lie at a. -/
def InT (w : World) (a : Option Addr) (l : List ByteArray) : Prop := ∀ i (hi : i < l.length), ∃ g, a = some ⟨g, 0, none⟩ ∧ w.cell? ⟨g, i, none⟩ = some (.string l[i])
theorem InT.below {w w' : World} {a : Option Addr} {l : List ByteArray} (h : InT w a l) (hb : Below w.heap.size w w') : InT w' a l := fun i hi => by
  obtain ⟨g, e, h1⟩ := h i hi
  exact ⟨g, e, (hb.cell (p := ⟨g, i, none⟩) (World.block_lt_of_cell? w _ h1)).trans h1⟩
theorem RowT.slice {wb w : World} {v : Value} {l : List ByteArray} (h : RowT wb w v l) : ∃ a c, v = .slice a l.length c ∧ l.length ≤ c ∧ c ≤ 9223372036854775807 ∧ InT w a l := by
  rcases h.row.2 with ⟨rfl, hn⟩ | ⟨g, cap, cur, rfl, hg, hh, h1, h2, h3, h4⟩
  · exact ⟨none, 0, by rw [hn], by omega, Nat.zero_le _, fun i hi => absurd hi (by omega)⟩
  · refine ⟨some ⟨g, 0, none⟩, cap, rfl, h1, by unfold maxLen at h2; omega, fun i hi => ⟨g, rfl, ?_⟩⟩
    have e1 : (cur.toList.take (l.length * 1))[i]? = cur.toList[i]? := List.getElem?_take_of_lt (by omega)
    rw [h4] at e1
    have e2 : (cellsT l)[i]? = some (.string l[i]) := by simp [cellsT, hi]
    rw [e2] at e1
    simp only [World.cell?, hh]
    simpa using e1.symm
/-- The strings r appended to a row's. -/
theorem str_push {wb w : World} {v : Value} {l : List ByteArray} {ops : Array Oper} {rest : List Oper} {o : Oper} {a : Act} {Q : Exit → Act → World → Prop} (hO : RowT wb w v l) (hgd : o.guard = none) (s x : Operand)
    (ho : o.op = .call { callee := .builtin .append, args := #[s, x], argTypes := #[44, 44] }) (hs : a.eval s = v) (r : List ByteArray) (c : Nat)
    {b n : Nat} (hx : a.eval x = .slice (some ⟨b, 0, none⟩) n c) (hn : n = r.length) (hI : InT w (some ⟨b, 0, none⟩) r) (hl : l.length ≤ 1000000000) (hr : r.length ≤ 1000000000)
    (h : ∀ v' w', RowT wb w' v' (l ++ r) → wpList Try.prog ops Q rest (a.put o.dst v') w') : wpList Try.prog ops Q (o :: rest) a w := by
  obtain ⟨i0, hi, hz0, hz1, hz2⟩ := info_parts iStr
  subst hn
  refine wpList_append_own _ hgd s x 44 ho wb.heap.size 9 i0 (.string ⟨#[]⟩) 1 16 Try.underlying44 hi hz0 hz1 hz2 rfl (by decide) v l.length (cellsT l) hs hO.row ⟨b, 0, none⟩ r.length c (cellsT r) hx (cellsT_len r) ?_ ?_ (by unfold maxLen; omega) (by omega) hO.bel.size ?_
  · intro j u hj
    rw [Addr.add_lit, Nat.zero_add]
    have hjr : j < r.length := by
      have h0 := (List.getElem?_eq_some_iff.1 hj).1
      rw [cellsT_len] at h0
      omega
    obtain ⟨g, e, hc⟩ := hI j hjr
    cases e
    rw [hc, ← hj]
    simp [cellsT, hjr]
  · intro u hu
    obtain ⟨y, -, rfl⟩ := List.mem_map.1 hu
    rfl
  · intro v' w' hr2 hg _
    refine h v' w' ⟨?_, hO.bel.grown hg hO.bel.size (fun k hk => (hO.row.lt k hk).1)⟩
    rw [List.length_append, show cellsT (l ++ r) = cellsT l ++ cellsT r from List.map_append]
    exact hr2
end Go.Proofs.Ytnmncjeplfkdpaa.Pa
/- The checking package's add of layer 7. No condition but bounds. -/
namespace Go.Proofs.Ytnmncjeplfkdpaa.Pa
open Go.ChangeShapes Go.WideShapes Go.ChangeAt Go.RowKit
def addT (l : List ByteArray) (s : ByteArray) : List ByteArray := if l.any (fun y => y.toList == s.toList) then l else l ++ [s]
theorem addT_some {l : List ByteArray} {s : ByteArray} {j : Nat} (hj : j < l.length) (he : (l[j].toList == s.toList) = true) : addT l s = l := by
  unfold addT
  rw [if_pos (List.any_eq_true.2 ⟨l[j], List.getElem_mem hj, he⟩)]
theorem addT_none {l : List ByteArray} {s : ByteArray} (h : ∀ y ∈ l.take l.length, (y.toList == s.toList) = false) : addT l s = l ++ [s] := by
  rw [List.take_length] at h
  unfold addT
  rw [if_neg]
  intro hh
  obtain ⟨y, hy, he⟩ := List.any_eq_true.1 hh
  rw [h y hy] at he
  cases he
theorem inT_new (w : World) (s : ByteArray) (T : TypeId) : InT (w.alloc (.cells #[.string s] T)) (some ⟨w.heap.size, 0, none⟩) [s] := by
  intro i hi
  obtain rfl : i = 0 := by simpa using hi
  exact ⟨w.heap.size, rfl, by rw [World.cell?_alloc_new]; rfl⟩
set_option maxHeartbeats 4000000 in
set_option maxRecDepth 100000 in
theorem refAdd_calls (wb w : World) (v : Value) (l : List ByteArray) (hn : l.length ≤ 1000000) (h0 : 0 < l.length) (hR : RowT wb w v l) (s : ByteArray) :
    Calls Try.prog 28 #[v, .string s] w fun e w' => ∃ v', e = .returned v' ∧ RowT wb w' v' (addT l s) := by
  have HR := Lib.hid hR
  obtain ⟨a, c, rfl, hlc, hcc, hI⟩ := hR.slice
  obtain ⟨g, rfl, -⟩ := hI 0 h0
  have HI := Lib.hid hI
  clear hI hR h0
  go_enter Try.func28, Try.ntmps28
  go_wp2_with fail
  go_loopg [6, 9] (l.length + 1) (fun g _ vi wr => ∃ j : Nat, vi = .int .i64 j ∧ j ≤ l.length ∧ l.length - j ≤ g ∧ Hid (Below w.heap.size w wr) ∧ Hid (∀ y ∈ l.take j, (y.toList == s.toList) = false))
  case atStart => exact ⟨0, rfl, by omega, by omega, Lib.hid (Below.refl _ _), Lib.hid (fun y hy => by cases hy)⟩
  case round =>
    obtain ⟨j, rfl, hj, hg, HB, HN⟩ := hrel
    by_cases hjl : j < l.length
    case neg =>
      obtain rfl : j = l.length := by omega
      have HZ := Lib.hid (addT_none HN.out)
      have HIr := Lib.hid ((HI.out.below HB.out).below (bbox (.cells #[] 9)))
      go_wp2_with (at_builtin; refine str_push (rowT_made wr) rfl _ _ rfl rfl l _ rfl rfl HIr.out ?hl ?hr ?_)
      case hl => simp
      case hr => omega
      intro v3 w3 hR3
      have HR3 := Lib.hid (hR3.below (bbox (.cells #[.string s] 9)))
      obtain ⟨pa3, pc3, rfl, -, -, -⟩ := hR3.slice
      clear hR3
      go_wp2_with (at_builtin; refine str_push HR3.out rfl _ _ rfl rfl [s] _ rfl rfl (inT_new _ _ _) ?hl ?hr ?_)
      case hl => omega
      case hr => simp
      intro v4 w4 hR4
      have HR4 := Lib.hid hR4
      clear hR4
      go_wp2_with fail
      go_ret
      exact ⟨_, rfl, by rw [HZ.out]; exact HR4.out.over (HR.out.bel.trans (HB.out.mono HR.out.bel.size))⟩
    case pos =>
      obtain ⟨g', hge, h1⟩ := (HI.out.below HB.out) j hjl
      cases hge
      cases he : (l[j].toList == s.toList)
      case true =>
        have HZ := Lib.hid (addT_some hjl he)
        generalize l[j] = x at *
        go_wp2_with fail
        go_ret
        exact ⟨_, rfl, by rw [HZ.out]; exact HR.out.below HB.out⟩
      case false =>
        have HN2 : Hid (∀ y ∈ l.take (j + 1), (y.toList == s.toList) = false) := Lib.hid (by
          intro y hy
          rw [← List.take_append_getElem hjl] at hy
          rcases List.mem_append.1 hy with h | h
          · exact HN.out y h
          · rw [List.mem_singleton.1 h, he])
        generalize l[j] = x at *
        go_wp2_with fail
        go_roundg (gk - 1)
        case measure => omega
        case rel => exact ⟨j + 1, by go_num, by omega, by omega, HB, HN2⟩
end Go.Proofs.Ytnmncjeplfkdpaa.Pa
