/- The checking package's Drop of layer 7. No condition but bounds. -/
import Derived.Test.YtnmncjeplfkdpaaPa2
import Derived.Laws.StructEq
import Derived.Deep.QuietTactic
import Derived.Deep.AppendLies
namespace Go.Proofs.Ytnmncjeplfkdpaa.Pa
open Go.ChangeShapes Go.WideShapes Go.ChangeAt Go.RowKit
end Go.Proofs.Ytnmncjeplfkdpaa.Pa
/- The checking package's begins, Walk and Above of layer 7. No condition but bounds. -/
namespace Go.Proofs.Ytnmncjeplfkdpaa.Pa
open Go.ChangeShapes Go.WideShapes Go.ChangeAt Go.RowKit
def begM (s p : ByteArray) : Bool := decide (p.size ≤ s.size) && ((s.extract 0 p.size).toList == p.toList)
theorem sel_take (f : Mk → Bool) {l : List Mk} {j : Nat} (hj : j < l.length) : (l.take (j + 1)).filter f = (l.take j).filter f ++ (if f l[j] then [l[j]] else []) := by
  rw [← List.take_append_getElem hj, List.filter_append]
  cases h : f l[j] <;> simp [h]
end Go.Proofs.Ytnmncjeplfkdpaa.Pa
/- The checking package's Same of layer 7. No condition but bounds. -/
namespace Go.Proofs.Ytnmncjeplfkdpaa.Pa
open Go.ChangeShapes Go.WideShapes Go.ChangeAt Go.RowKit
theorem neqM (w : World) (x y : ByteArray) (z t : Int) : (binOp .neq 63 (.agg #[.string x, .int .i64 z]) (.agg #[.string y, .int .i64 t])).run Try.prog w = .ok (.bool (!((x.toList == y.toList) && (z == t)))) w := by
  have hS : Try.prog.underlying 63 = some (.struct (Try.prog.fieldsOf 63)) := by kernel_rfl
  have hp : Try.prog.stoodInHeld 63 = false := by kernel_rfl
  rw [run_neq_struct, show (10000 : Nat) = 9999 + 1 from rfl, run_equalIn_agg w 9999 63 _ _ hS hp]
  have u1 : Try.prog.underlying 9 = some .string := by kernel_rfl
  have u2 : Try.prog.underlying 2 = some (.int .i64) := by kernel_rfl
  have uM := Try.underlying63
  simp only [Program.fieldsOf, uM]
  go_simp
  by_cases h1 : x.toList = y.toList <;> by_cases h2 : z = t <;> simp [h1, h2]
theorem same_take {l r : List Mk} {j : Nat} (hl : j < l.length) (hr : j < r.length) (h : l.take j = r.take j) (he : l[j] = r[j]) : l.take (j + 1) = r.take (j + 1) := by
  rw [← List.take_append_getElem hl, ← List.take_append_getElem hr, h, he]
theorem same_not {l r : List Mk} {j : Nat} (hl : j < l.length) (hr : j < r.length) (he : l[j] ≠ r[j]) : l ≠ r := fun h => he (by subst h; rfl)
theorem beq_toListBytes_eq {x y : ByteArray} (h : x.toList = y.toList) : x = y := by
  rw [ByteArray.toList_eq, ByteArray.toList_eq] at h
  obtain ⟨x⟩ := x
  obtain ⟨y⟩ := y
  exact congrArg ByteArray.mk (Array.toList_inj.1 h)
theorem mk_eq {x y : ByteArray} {z t : Int} (h : ((x.toList == y.toList) && (z == t)) = true) : (x, z) = (y, t) := by
  simp only [Bool.and_eq_true, beq_iff_eq] at h
  rw [← beq_toListBytes_eq h.1, h.2]
theorem mk_ne {x y : ByteArray} {z t : Int} (h : ((x.toList == y.toList) && (z == t)) = false) : (x, z) ≠ (y, t) := by
  rintro ⟨⟩
  simp at h
end Go.Proofs.Ytnmncjeplfkdpaa.Pa
/- The checking package's Put of layer 7. No condition but bounds. -/
namespace Go.Proofs.Ytnmncjeplfkdpaa.Pa
open Go.ChangeShapes Go.WideShapes Go.ChangeAt Go.RowKit
/-- mark_push, and what stands besides. -/
theorem mark_push2 {wb w : World} {v : Value} {l : List Mk} {ops : Array Oper} {rest : List Oper} {o : Oper} {a : Act} {Q : Exit → Act → World → Prop} (hO : RowM wb w v l) (hgd : o.guard = none) (s x : Operand)
    (ho : o.op = .call { callee := .builtin .append, args := #[s, x], argTypes := #[35, 35] }) (hs : a.eval s = v) (m : Mk) (arr : Array Value) (Te : TypeId) (c : Nat)
    {b : Nat} (hx : a.eval x = .slice (some ⟨b, 0, none⟩) 1 c) (hb : b = w.heap.size) (harr : arr = #[.string m.1, .int .i64 m.2]) (hl : l.length ≤ 1000000000)
    (h : ∀ v' w', RowM wb w' v' (l ++ [m]) → (w.alloc (.cells arr Te)).grownBy w' v.ownBlock → wpList Try.prog ops Q rest (a.put o.dst v') w') : wpList Try.prog ops Q (o :: rest) a (w.alloc (.cells arr Te)) := by
  obtain ⟨i0, hi, hz0, hz1, hz2⟩ := info_parts iMk
  subst harr
  subst hb
  have hO2 := hO.below (bbox (.cells #[.string m.1, .int .i64 m.2] Te))
  refine wpList_append_own _ hgd s x 35 ho wb.heap.size 63 i0 (.agg #[.string ⟨#[]⟩, .int .i64 0]) 2 24 Try.underlying35 hi hz0 hz1 hz2 rfl (by decide) v l.length (cellsM l) hs hO2.row ⟨w.heap.size, 0, none⟩ 1 c [.string m.1, .int .i64 m.2] hx rfl ?_ ?_ (by unfold maxLen; omega) (by omega) hO2.bel.size ?_
  · intro j u hj
    rw [Addr.add_lit, Nat.zero_add, World.cell?_alloc_new]
    simpa using hj
  · intro u hu
    simp only [List.mem_cons, List.not_mem_nil, or_false] at hu
    rcases hu with rfl | rfl <;> rfl
  · intro v' w' hr hg _
    refine h v' w' ⟨?_, hO2.bel.grown hg hO2.bel.size (fun k hk => (hO2.row.lt k hk).1)⟩ hg
    rw [List.length_append, cellsM_app]
    exact hr
/-- A boxed mark stands while a row that lay before it grows. -/
theorem box_stays {wb wr w : World} {v : Value} {l : List Mk} (hR : RowM wb wr v l) {x : ByteArray} {z : Int} {T : TypeId} {o : Obj} (hg : ((wr.alloc (.cells #[.string x, .int .i64 z] T)).alloc o).grownBy w v.ownBlock) :
    w.cell? ⟨wr.heap.size, 0, none⟩ = some (.string x) ∧ w.cell? ⟨wr.heap.size, 1, none⟩ = some (.int .i64 z) := by
  have hne : some wr.heap.size ≠ v.ownBlock := fun h => absurd (hR.row.lt _ h.symm).2 (Nat.lt_irrefl _)
  have hb := bbox (w := wr.alloc (.cells #[.string x, .int .i64 z] T)) o
  refine ⟨(hg.cell_far ⟨wr.heap.size, 0, none⟩ (by simp; omega) hne).trans ((hb.cell (p := ⟨wr.heap.size, 0, none⟩) (by simp)).trans (by rw [World.cell?_alloc_new]; rfl)), (hg.cell_far ⟨wr.heap.size, 1, none⟩ (by simp; omega) hne).trans ((hb.cell (p := ⟨wr.heap.size, 1, none⟩) (by simp)).trans (by rw [World.cell?_alloc_new]; rfl))⟩
/-- One round of Put: the marks so far, placed, fresh. -/
def putStep (k : ByteArray) (n : Int) (s : List Mk × Bool × Bool) (m : Mk) : List Mk × Bool × Bool :=
  let le := Op.bytesLess k.toList m.1.toList || m.1.toList == k.toList
  let s1 := if !s.2.1 && le then (s.1 ++ [(k, n)], true) else (s.1, s.2.1)
  if m.1.toList == k.toList then (s1.1, s1.2, false) else (s1.1 ++ [m], s1.2, s.2.2)
def putF (k : ByteArray) (n : Int) (l : List Mk) : List Mk × Bool × Bool := l.foldl (putStep k n) ([], false, true)
def putM (k : ByteArray) (n : Int) (l : List Mk) : List Mk := if (putF k n l).2.1 then (putF k n l).1 else (putF k n l).1 ++ [(k, n)]
theorem putF_take {k : ByteArray} {n : Int} {l : List Mk} {j : Nat} (hj : j < l.length) : putF k n (l.take (j + 1)) = putStep k n (putF k n (l.take j)) l[j] := by
  unfold putF
  rw [← List.take_append_getElem hj, List.foldl_append]
  rfl
set_option maxHeartbeats 8000000 in
set_option maxRecDepth 100000 in
theorem refPut_calls (w : World) (a : Option Addr) (c : Nat) (l : List Mk) (hn : l.length ≤ 1000000) (hI : InM w a l) (k : ByteArray) (n : Int) :
    Calls Try.prog 25 #[.slice a l.length c, .string k, .int .i64 n] w fun e w' => ∃ v, e = .returned (.tuple #[v, .bool (putF k n l).2.2]) ∧ RowM w w' v (putM k n l) := by
  have HI := Lib.hid hI
  clear hI
  go_enter Try.func25, Try.ntmps25
  go_wp2_with fail
  go_loopg [8, 9, 10, 12, 16] (l.length + 1) (fun g ov pv fv _ vi wr => ∃ (j : Nat) (o : List Mk) (p f : Bool), vi = .int .i64 j ∧ pv = .bool p ∧ fv = .bool f ∧ j ≤ l.length ∧ l.length - j ≤ g ∧ o.length ≤ 2 * j ∧ Hid (putF k n (l.take j) = (o, p, f)) ∧ RowM w wr ov o)
  case atStart => exact ⟨0, [], false, true, rfl, rfl, rfl, by omega, by omega, by simp, Lib.hid rfl, rowM_made w⟩
  case round =>
    obtain ⟨j, o, p, f, rfl, rfl, rfl, hj, hg, ho, HP, hR⟩ := hrel
    have HR := Lib.hid hR
    obtain ⟨pa, pc, rfl, hpl, hpc, -⟩ := hR.slice
    clear hR
    by_cases hjl : j < l.length
    case neg =>
      obtain rfl : j = l.length := by omega
      have HZ : Hid (putF k n l = (o, p, f)) := Lib.hid (by have h := HP.out; rw [List.take_length] at h; exact h)
      cases p
      case true =>
        go_wp2_with fail
        go_ret2
        refine ⟨_, by rw [HZ.out]; rfl, ?_⟩
        unfold putM
        rw [HZ.out]
        exact HR.out
      case false =>
        go_wp2_with (at_builtin; refine mark_push HR.out rfl _ _ rfl rfl (k, n) _ _ _ rfl (by simp) rfl ?hl ?_)
        case hl => omega
        intro v3 w3 hR3
        have HR3 := Lib.hid hR3
        clear hR3
        go_wp2_with fail
        go_ret2
        refine ⟨_, by rw [HZ.out]; rfl, ?_⟩
        unfold putM
        rw [HZ.out]
        exact HR3.out
    case pos =>
      obtain ⟨g, rfl, h1, h2⟩ := (HI.out.below HR.out.bel) j hjl
      have HT := Lib.hid (putF_take (k := k) (n := n) hjl)
      generalize l[j] = q at *
      obtain ⟨x, z⟩ := q
      have h1 : wr.cell? ⟨g, j * 2, none⟩ = some (.string x) := h1
      have h2 : wr.cell? ⟨g, j * 2 + 1, none⟩ = some (.int .i64 z) := h2
      have hjc : (j : Int) < (l.length : Int) := by omega
      have HB := Lib.hid (fun o => HR.out.below (bbox (w := wr) o))
      have hsw : (k.toList == x.toList) = (x.toList == k.toList) := by rw [Bool.eq_iff_iff]; simp only [beq_iff_eq]; exact eq_comm
      have HS := HT.out
      rw [HP.out] at HS
      unfold putStep at HS
      cases he : (x.toList == k.toList) <;> cases hb : Op.bytesLess k.toList x.toList <;> cases p <;> rw [he] at hsw <;> simp only [he, hb, Bool.not_true, Bool.not_false, Bool.and_true, Bool.and_false, Bool.or_true, Bool.or_false, Bool.false_eq_true, if_true, if_false] at HS
      · -- equal 0 less 0 placed 0
        have HS2 := Lib.hid HS
        clear HS
        have hne : (!(x.toList == k.toList)) = true := by rw [he]; rfl
        go_wp2_with (at_builtin; refine mark_push (HB.out _) rfl _ _ rfl rfl (x, z) _ _ _ rfl (by simp) rfl ?hl ?_)
        case hl => omega
        intro v3 w3 hR3
        obtain ⟨pa3, pc3, rfl, -, -, -⟩ := hR3.slice
        have HR3 := Lib.hid hR3
        clear hR3
        go_wp2_with fail
        go_roundg (gk - 1)
        case measure => omega
        case rel => exact ⟨j + 1, _, _, _, by go_num, rfl, rfl, by omega, by omega, by simp only [List.length_append, List.length_cons, List.length_nil]; omega, HS2, HR3.out⟩
      · -- equal 0 less 0 placed 1
        have HS2 := Lib.hid HS
        clear HS
        have hne : (!(x.toList == k.toList)) = true := by rw [he]; rfl
        go_wp2_with (at_builtin; refine mark_push (HB.out _) rfl _ _ rfl rfl (x, z) _ _ _ rfl (by simp) rfl ?hl ?_)
        case hl => omega
        intro v3 w3 hR3
        obtain ⟨pa3, pc3, rfl, -, -, -⟩ := hR3.slice
        have HR3 := Lib.hid hR3
        clear hR3
        go_wp2_with fail
        go_roundg (gk - 1)
        case measure => omega
        case rel => exact ⟨j + 1, _, _, _, by go_num, rfl, rfl, by omega, by omega, by simp only [List.length_append, List.length_cons, List.length_nil]; omega, HS2, HR3.out⟩
      · -- equal 0 less 1 placed 0
        have HS2 := Lib.hid HS
        clear HS
        have hne : (!(x.toList == k.toList)) = true := by rw [he]; rfl
        go_wp2_with (at_builtin; refine mark_push2 (HB.out _) rfl _ _ rfl rfl (k, n) _ _ _ rfl (by simp) rfl ?hl ?_)
        case hl => omega
        intro v3 w3 hR3 hg3
        obtain ⟨c0, c1⟩ := box_stays HR.out hg3
        obtain ⟨pa3, pc3, rfl, -, -, -⟩ := hR3.slice
        have HR3 := Lib.hid hR3
        clear hR3 hg3
        go_wp2_with (at_builtin; refine mark_push HR3.out rfl _ _ rfl rfl (x, z) _ _ _ rfl (by simp) rfl ?hl ?_)
        case hl => simp only [List.length_append, List.length_cons, List.length_nil]; omega
        intro v4 w4 hR4
        obtain ⟨pa4, pc4, rfl, -, -, -⟩ := hR4.slice
        have HR4 := Lib.hid hR4
        clear hR4
        go_wp2_with fail
        go_roundg (gk - 1)
        case measure => omega
        case rel => exact ⟨j + 1, _, _, _, by go_num, rfl, rfl, by omega, by omega, by simp only [List.length_append, List.length_cons, List.length_nil]; omega, HS2, by rw [List.append_assoc] at *; exact HR4.out⟩
      · -- equal 0 less 1 placed 1
        have HS2 := Lib.hid HS
        clear HS
        have hne : (!(x.toList == k.toList)) = true := by rw [he]; rfl
        go_wp2_with (at_builtin; refine mark_push (HB.out _) rfl _ _ rfl rfl (x, z) _ _ _ rfl (by simp) rfl ?hl ?_)
        case hl => omega
        intro v3 w3 hR3
        obtain ⟨pa3, pc3, rfl, -, -, -⟩ := hR3.slice
        have HR3 := Lib.hid hR3
        clear hR3
        go_wp2_with fail
        go_roundg (gk - 1)
        case measure => omega
        case rel => exact ⟨j + 1, _, _, _, by go_num, rfl, rfl, by omega, by omega, by simp only [List.length_append, List.length_cons, List.length_nil]; omega, HS2, HR3.out⟩
      · -- equal 1 less 0 placed 0
        have HS2 := Lib.hid HS
        clear HS
        have hne : (!(x.toList == k.toList)) = false := by rw [he]; rfl
        go_wp2_with (at_builtin; refine mark_push2 (HB.out _) rfl _ _ rfl rfl (k, n) _ _ _ rfl (by simp) rfl ?hl ?_)
        case hl => omega
        intro v3 w3 hR3 hg3
        obtain ⟨c0, c1⟩ := box_stays HR.out hg3
        obtain ⟨pa3, pc3, rfl, -, -, -⟩ := hR3.slice
        have HR3 := Lib.hid hR3
        clear hR3 hg3
        go_wp2_with fail
        go_roundg (gk - 1)
        case measure => omega
        case rel => exact ⟨j + 1, _, _, _, by go_num, rfl, rfl, by omega, by omega, by simp only [List.length_append, List.length_cons, List.length_nil]; omega, HS2, HR3.out⟩
      · -- equal 1 less 0 placed 1
        have HS2 := Lib.hid HS
        clear HS
        have hne : (!(x.toList == k.toList)) = false := by rw [he]; rfl
        go_wp2_with fail
        go_roundg (gk - 1)
        case measure => omega
        case rel => exact ⟨j + 1, _, _, _, by go_num, rfl, rfl, by omega, by omega, by omega, HS2, HB.out _⟩
      · -- equal 1 less 1 placed 0
        have HS2 := Lib.hid HS
        clear HS
        have hne : (!(x.toList == k.toList)) = false := by rw [he]; rfl
        go_wp2_with (at_builtin; refine mark_push2 (HB.out _) rfl _ _ rfl rfl (k, n) _ _ _ rfl (by simp) rfl ?hl ?_)
        case hl => omega
        intro v3 w3 hR3 hg3
        obtain ⟨c0, c1⟩ := box_stays HR.out hg3
        obtain ⟨pa3, pc3, rfl, -, -, -⟩ := hR3.slice
        have HR3 := Lib.hid hR3
        clear hR3 hg3
        go_wp2_with fail
        go_roundg (gk - 1)
        case measure => omega
        case rel => exact ⟨j + 1, _, _, _, by go_num, rfl, rfl, by omega, by omega, by simp only [List.length_append, List.length_cons, List.length_nil]; omega, HS2, HR3.out⟩
      · -- equal 1 less 1 placed 1
        have HS2 := Lib.hid HS
        clear HS
        have hne : (!(x.toList == k.toList)) = false := by rw [he]; rfl
        go_wp2_with fail
        go_roundg (gk - 1)
        case measure => omega
        case rel => exact ⟨j + 1, _, _, _, by go_num, rfl, rfl, by omega, by omega, by omega, HS2, HB.out _⟩
end Go.Proofs.Ytnmncjeplfkdpaa.Pa
