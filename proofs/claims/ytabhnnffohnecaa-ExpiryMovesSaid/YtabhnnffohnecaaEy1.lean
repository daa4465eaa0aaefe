/- The checking package of layer 11: Drop, Get, Due, Same. Conditions: dues as they lie; bounds. -/
import Derived.Test.YtabhnnffohnecaaEx4
import Derived.Laws.StructEq
namespace Go.Proofs.Ytabhnnffohnecaa.Ea
open Go.ChangeShapes Go.WideShapes Go.ChangeAt Go.RowKit
theorem beq_ne {x y : ByteArray} (h : x ≠ y) : (x.toList == y.toList) = false := by
  rw [beq_eq_false_iff_ne]
  exact fun e => h (ba_eq e)
theorem rowD_made (w : World) : RowD w (w.alloc (.cells #[] 26)) (.slice (some ⟨w.heap.size, 0, none⟩) 0 0) [] := ⟨World.ownsRow_made w #[] 0 (Nat.le_refl _) (Nat.zero_le _) rfl, bbox _⟩
theorem dropD_take {k : ByteArray} {l : List Du} {j : Nat} (hj : j < l.length) : dropD k (l.take (j + 1)) = dropD k (l.take j) ++ (if l[j].2 = k then [] else [l[j]]) := by
  unfold dropD
  rw [← List.take_append_getElem hj, List.filter_append]
  congr 1
  by_cases h : l[j].2 = k <;> simp [h]
set_option maxHeartbeats 4000000 in
set_option maxRecDepth 100000 in
theorem refDrop_calls (w : World) (a : Option Addr) (c : Nat) (l : List Du) (hn : l.length ≤ 1000000) (hI : InD w a l) (k : ByteArray) :
    Calls Try.prog 13 #[.slice a l.length c, .string k] w fun e w' => ∃ v, e = .returned (.tuple #[v, .bool (inD k l)]) ∧ RowD w w' v (dropD k l) := by
  have HI := Lib.hid hI
  have HR0 := Lib.hid (rowD_made w)
  clear hI
  go_enter Try.func13, Try.ntmps13
  go_wp2_with fail
  generalize w.alloc (.cells #[] 26) = w0 at *
  generalize Value.slice (some ⟨w.heap.size, 0, none⟩) 0 0 = v0 at *
  go_loopg [6, 12] (l.length + 1) (fun g v6 vi wr => ∃ j : Nat, vi = .int .i64 j ∧ j ≤ l.length ∧ l.length - j ≤ g ∧ Hid (RowD w wr v6 (dropD k (l.take j))))
  case atStart => exact ⟨0, rfl, by omega, by omega, HR0⟩
  case round =>
    obtain ⟨j, rfl, hj, hg, HR⟩ := hrel
    clear HR0
    by_cases hjl : j < l.length
    case pos =>
      have hjc : (j : Int) < (l.length : Int) := by omega
      obtain ⟨b, o, rfl, hbl, hat⟩ := HI.out.below (Nat.le_refl _) HR.out.bel (by omega)
      obtain ⟨e0, e1⟩ := hat j hjl
      have HE := Lib.hid (dropD_take (k := k) hjl)
      have HLe : Hid ((dropD k (l.take j)).length ≤ 1000000) := Lib.hid (by have := dropD_le k (l.take j); have := List.length_take_le j l; omega)
      have HP : Hid (l[j] = (l[j].1, l[j].2)) := Lib.hid rfl
      clear hat
      rw [HP.out] at HE
      clear HP
      generalize l[j].1 = t at *
      generalize l[j].2 = q at *
      have HR1 := Lib.hid (HR.out.below (bbox (.cells #[.int .i64 t, .string q] 26)))
      by_cases hq : q = k
      case pos =>
        have hqe := beq_eq hq
        have HZ : Hid (RowD w (wr.alloc (.cells #[.int .i64 t, .string q] 26)) u6 (dropD k (l.take (j + 1)))) := Lib.hid (by rw [HE.out, if_pos hq, List.append_nil]; exact HR1.out)
        clear HE HR1 HLe hq
        go_wp2_with fail
        go_roundg (gk - 1)
        case measure => omega
        case rel => exact ⟨j + 1, by go_num, by omega, by omega, HZ⟩
      case neg =>
        have hqe := beq_ne hq
        have HZ : Hid (dropD k (l.take j) ++ [(t, q)] = dropD k (l.take (j + 1))) := Lib.hid (by rw [HE.out, if_neg hq])
        clear HE
        generalize hB : dropD k (l.take (j + 1)) = B at *
        have HBe := Lib.hid hB
        generalize dropD k (l.take j) = A at *
        clear hB
        go_wp2_with (at_builtin; refine due_push HR1.out rfl _ _ rfl rfl (t, q) _ _ 1 rfl (by simp) rfl (Nat.le_trans HLe.out (Nat.le_of_ble_eq_true rfl)) ?_)
        intro v5 w5 hR5 hg5
        have HR5 := Lib.hid hR5
        rw [HZ.out] at HR5
        clear hR5 hg5 e0 e1
        go_wp2_with fail
        go_roundg (gk - 1)
        case measure => omega
        case rel => exact ⟨j + 1, by go_num, by omega, by omega, by rw [HBe.out]; exact HR5⟩
    case neg =>
      have hjc : ¬ ((j : Int) < (l.length : Int)) := by omega
      obtain rfl : j = l.length := by omega
      rw [List.take_length] at HR
      have HX := Lib.hid (dropD_lt k l)
      obtain ⟨ra, rc, rfl, -, -, -⟩ := HR.out.slice
      go_wp2_with fail
      go_ret2
      exact ⟨_, by rw [HX.out]; rfl, HR.out⟩
theorem getD_at {l : List Du} {k : ByteArray} {j : Nat} (hj : j < l.length) (h : ∀ m (hm : m < l.length), m < j → l[m].2 ≠ k) (e : l[j].2 = k) : getD k l = l[j].1 ∧ inD k l = true := by
  have h1 : l.find? (fun d => decide (d.2 = k)) = some l[j] := by
    have hs : l = l.take j ++ l[j] :: l.drop (j + 1) := by
      rw [List.getElem_cons_drop, List.take_append_drop]
    refine (congrArg (List.find? fun d => decide (d.2 = k)) hs).trans ?_
    rw [List.find?_append]
    have h2 : (l.take j).find? (fun d => decide (d.2 = k)) = none := by
      rw [List.find?_eq_none]
      intro x hx
      obtain ⟨m, hm, rfl⟩ := List.mem_iff_getElem.1 hx
      rw [List.length_take] at hm
      rw [List.getElem_take]
      have := h m (by omega) (by omega)
      simpa using this
    rw [h2, List.find?_cons_of_pos (by simpa using e)]; rfl
  refine ⟨?_, ?_⟩
  · unfold getD; rw [h1]; rfl
  · exact inD_iff.2 (by rw [← e]; exact List.mem_map_of_mem (List.getElem_mem hj))
theorem getD_end {l : List Du} {k : ByteArray} (h : ∀ m (hm : m < l.length), l[m].2 ≠ k) : getD k l = 0 ∧ inD k l = false := by
  have hn : ∀ x ∈ l, x.2 ≠ k := fun x hx => by
    obtain ⟨m, hm, rfl⟩ := List.mem_iff_getElem.1 hx
    exact h m hm
  refine ⟨?_, ?_⟩
  · unfold getD
    rw [List.find?_eq_none.2 fun x hx => by have := hn x hx; simpa using this]; rfl
  · cases e : inD k l with
    | false => rfl
    | true =>
      obtain ⟨x, hx, e2⟩ := List.mem_map.1 (inD_iff.1 e)
      exact absurd e2 (hn x hx)
set_option maxHeartbeats 4000000 in
set_option maxRecDepth 100000 in
theorem refGet_calls (w : World) (a : Option Addr) (c : Nat) (l : List Du) (hn : l.length ≤ 1000000) (hI : InD w a l) (k : ByteArray) :
    Calls Try.prog 16 #[.slice a l.length c, .string k] w fun e w' => e = .returned (.tuple #[.int .i64 (getD k l), .bool (inD k l)]) ∧ Below w.heap.size w w' := by
  have HI := Lib.hid hI
  clear hI
  obtain ⟨gt, hgt⟩ : ∃ x, x = getD k l := ⟨_, rfl⟩
  obtain ⟨gb, hgb⟩ : ∃ x, x = inD k l := ⟨_, rfl⟩
  have HG : Hid (gt = getD k l ∧ gb = inD k l) := Lib.hid ⟨hgt, hgb⟩
  rw [← hgt, ← hgb]
  clear hgt hgb
  go_enter Try.func16, Try.ntmps16
  go_wp2_with fail
  go_loopg [10] (l.length + 1) (fun g vi wr => ∃ j : Nat, vi = .int .i64 j ∧ j ≤ l.length ∧ l.length - j ≤ g ∧ Hid (∀ m (hm : m < l.length), m < j → l[m].2 ≠ k) ∧ Hid (Below w.heap.size w wr))
  case atStart => exact ⟨0, rfl, by omega, by omega, Lib.hid (fun _ _ h => absurd h (Nat.not_lt_zero _)), Lib.hid (Below.refl _ _)⟩
  case round =>
    obtain ⟨j, rfl, hj, hg, HN, HB⟩ := hrel
    by_cases hjl : j < l.length
    case pos =>
      have hjc : (j : Int) < (l.length : Int) := by omega
      obtain ⟨b, o, rfl, hbl, hat⟩ := HI.out.below (Nat.le_refl _) HB.out (by omega)
      obtain ⟨e0, e1⟩ := hat j hjl
      have HGt := Lib.hid (getD_at hjl HN.out)
      have HNx : Hid (l[j].2 ≠ k → ∀ m (hm : m < l.length), m < j + 1 → l[m].2 ≠ k) := Lib.hid (fun hq m hm hlt => by
        by_cases hmj : m = j
        · subst hmj; exact hq
        · exact HN.out m hm (by omega))
      clear hat HN
      generalize l[j].1 = t at *
      generalize l[j].2 = q at *
      have HB1 := Lib.hid (bstep HB.out (bbox (w := wr) (.cells #[.int .i64 t, .string q] 26)))
      by_cases hq : q = k
      case pos =>
        have hqe := beq_eq hq
        have HZ : Hid (gt = t ∧ gb = true) := Lib.hid ⟨HG.out.1.trans (HGt.out hq).1, HG.out.2.trans (HGt.out hq).2⟩
        clear hq
        go_wp2_with fail
        go_ret2
        exact ⟨by rw [HZ.out.1, HZ.out.2]; rfl, HB1.out⟩
      case neg =>
        have hqe := beq_ne hq
        have HZ := Lib.hid (HNx.out hq)
        clear hq HNx HGt
        go_wp2_with fail
        go_roundg (gk - 1)
        case measure => omega
        case rel => exact ⟨j + 1, by go_num, by omega, by omega, HZ, HB1⟩
    case neg =>
      have hjc : ¬ ((j : Int) < (l.length : Int)) := by omega
      have HZ := Lib.hid (getD_end (l := l) (k := k) fun m hm => HN.out m hm (by omega))
      go_wp2_with fail
      go_ret2
      exact ⟨by rw [HG.out.1, HG.out.2, HZ.out.1, HZ.out.2]; rfl, HB.out⟩
theorem neqD (w : World) (z t : Int) (x y : ByteArray) : (binOp .neq 26 (.agg #[.int .i64 z, .string x]) (.agg #[.int .i64 t, .string y])).run Try.prog w = .ok (.bool (!((z == t) && (x.toList == y.toList)))) w := by
  have hS : Try.prog.underlying 26 = some (.struct (Try.prog.fieldsOf 26)) := by kernel_rfl
  have hp : Try.prog.stoodInHeld 26 = false := by kernel_rfl
  rw [run_neq_struct, show (10000 : Nat) = 9999 + 1 from rfl, run_equalIn_agg w 9999 26 _ _ hS hp]
  have u1 : Try.prog.underlying 9 = some .string := by kernel_rfl
  have u2 : Try.prog.underlying 2 = some (.int .i64) := by kernel_rfl
  have uM := Try.underlying26
  simp only [Program.fieldsOf, uM]
  go_simp
  by_cases h1 : x.toList = y.toList <;> by_cases h2 : z = t <;> simp [h1, h2]
theorem neqD_same (w : World) (z : Int) (x : ByteArray) : (binOp .neq 26 (.agg #[.int .i64 z, .string x]) (.agg #[.int .i64 z, .string x])).run Try.prog w = .ok (.bool false) w := by
  rw [neqD]; simp
set_option maxHeartbeats 4000000 in
set_option maxRecDepth 100000 in
theorem sameD_calls (w : World) (a b : Option Addr) (c d : Nat) (l : List Du) (hl : l.length ≤ 1000000) (hI : InD w a l) (hJ : InD w b l) :
    Calls Try.prog 21 #[.slice a l.length c, .slice b l.length d] w fun e w' => e = .returned (.bool true) ∧ Below w.heap.size w w' := by
  have HI := Lib.hid hI
  have HJ := Lib.hid hJ
  clear hI hJ
  go_enter Try.func21, Try.ntmps21
  go_wp2_with fail
  go_loopg [5, 13] (l.length + 1) (fun g _ vi wr => ∃ j : Nat, vi = .int .i64 j ∧ j ≤ l.length ∧ l.length - j ≤ g ∧ Hid (Below w.heap.size w wr))
  case atStart => exact ⟨0, rfl, by omega, by omega, Lib.hid (Below.refl _ _)⟩
  case round =>
    obtain ⟨j, rfl, hj, hg, HB⟩ := hrel
    by_cases hjl : j < l.length
    case pos =>
      have hjc : (j : Int) < (l.length : Int) := by omega
      obtain ⟨b1, o1, rfl, -, hat⟩ := HI.out.below (Nat.le_refl _) HB.out (by omega)
      obtain ⟨e0, e1⟩ := hat j hjl
      obtain ⟨b2, o2, rfl, -, hat2⟩ := HJ.out.below (Nat.le_refl _) HB.out (by omega)
      obtain ⟨d0, d1⟩ := hat2 j hjl
      clear hat hat2
      generalize l[j].1 = t at *
      generalize l[j].2 = q at *
      have hne := fun W => neqD_same W t q
      go_wp2_with fail
      go_quiet (fail)
      go_wp2_with fail
      go_roundg (gk - 1)
      case measure => omega
      case rel => exact ⟨j + 1, by go_num, by omega, by omega, Lib.hid (HB.out.trans ⟨rfl, rfl, rfl, Nat.le_refl _, fun _ _ => rfl⟩)⟩
    case neg =>
      have hjc : ¬ ((j : Int) < (l.length : Int)) := by omega
      go_wp2_with fail
      go_ret
      exact ⟨rfl, HB.out⟩
end Go.Proofs.Ytabhnnffohnecaa.Ea
