/- The checking packages' With, Same of numbers and of texts. Conditions: they lie; rising; bounds. -/
import Derived.Test.YtnmncjeplfkdpaaQc5
import Derived.Test.YtnmncjeplfkdpaaSp8
import Derived.Test.YtnmncjeplfkdpaaSp5
import Derived.Laws.StructEq
namespace Go.Proofs.Ytnmncjeplfkdpaa.Qa
set_option linter.unusedVariables false
set_option linter.unusedSimpArgs false
open Go.ChangeShapes Go.WideShapes Go.ChangeAt Go.RowKit
open Ka
open Sp (Th Hp Stays All Ro roT cellsT rowT exT puT star)
/-- Numbers at an address. -/
def AtI (w : World) (a : Option Addr) (l : List Int) : Prop := 0 < l.length → ∃ g, a = some ⟨g, 0, none⟩ ∧ ∀ j, j < l.length → w.cell? ⟨g, j, none⟩ = some (.int .i64 (l.getD j 0))
theorem AtI.below {w w' : World} {a : Option Addr} {l : List Int} (h : AtI w a l) (hb : Below w.heap.size w w') : AtI w' a l := fun hp => by
  obtain ⟨g, e, hc⟩ := h hp
  exact ⟨g, e, fun j hj => (hb.cell (p := ⟨g, j, none⟩) (World.block_lt_of_cell? w _ (hc j hj))).trans (hc j hj)⟩
/-- .. which no one writes. -/
def atRo (a : Option Addr) (l : List Int) : Ro :=
  ⟨fun R w => 0 < l.length → ∃ g, a = some ⟨g, 0, none⟩ ∧ R g ∧ ∀ j, j < l.length → w.cell? ⟨g, j, none⟩ = some (.int .i64 (l.getD j 0)),
   fun {R R' w w'} h hs hr hR hb hp => by
     obtain ⟨g, e, hg, hc⟩ := h hp
     exact ⟨g, e, hR g hg, fun j hj => by
       have := hc j hj
       simp only [World.cell?, hb g hg] at this ⊢
       exact this⟩⟩
section
variable {o w w' wb : World} {l : List Th} {B : Nat} {m : Int} {k : ByteArray} {ids : List Int} {v : Value}
theorem at_ro {a : Option Addr} {ids : List Int} (h : Hp o w (roT (atRo a ids) :: l)) : AtI w a ids := h.say fun hp _ _ hl => by
  obtain ⟨g, e, -, hc⟩ := hp.2 hl
  exact ⟨g, e, hc⟩
theorem rowI_atI {a : Option Addr} {c : Nat} (h : Hp o w (rowI (.slice a ids.length c) ids :: l)) : AtI w a ids := fun hp => by
  rcases rowI_form h with ⟨e, e2⟩ | ⟨g, c', e, -⟩
  · rw [e2] at hp; exact absurd hp (Nat.lt_irrefl _)
  · injection e with e1 e2 e3
    subst e1
    exact ⟨g, rfl, fun j hj => rowI_at h hj⟩
/-- A row of numbers is written no more. -/
theorem rowI_give {a : Option Addr} {c : Nat} (h : Hp o w (rowI (.slice a ids.length c) ids :: l)) : Hp o w (roT (atRo a ids) :: l) := by
  have hA := rowI_atI h
  refine Hp.rowGive h (atRo a ids) fun {R} hR hl => ?_
  obtain ⟨g, e, hc⟩ := hA hl
  exact ⟨g, e, hR g (by rw [e]; rfl), hc⟩
theorem rowI_slice (h : Hp o w (rowI v ids :: l)) : ∃ a c, v = .slice a ids.length c ∧ ids.length ≤ c ∧ c ≤ 9223372036854775807 := by
  rcases rowI_form h with ⟨rfl, rfl⟩ | ⟨g, c, rfl, h1, h2⟩
  · exact ⟨none, 0, rfl, Nat.le_refl _, by decide⟩
  · exact ⟨_, c, rfl, h1, h2⟩
/-- append of one number. -/
theorem iPush {ops : Array Oper} {rest : List Oper} {op : Oper} {a : Act} {Q : Exit → Act → World → Prop} (h : Hp o w (rowI v ids :: l)) (hgd : op.guard = none) (s x : Operand)
    (ho : op.op = .call { callee := .builtin .append, args := #[s, x], argTypes := #[40, 40] }) (hs : a.eval s = v) (n : Int) (hx : a.eval x = .slice (some ⟨w.heap.size, 0, none⟩) 1 1) (hn : ids.length ≤ 1000000)
    (K : ∀ v' w', Hp o w' (rowI v' (ids ++ [n]) :: l) → wpList Try.prog ops Q rest (a.put op.dst v') w') :
    wpList Try.prog ops Q (op :: rest) a (w.alloc (.cells #[.int .i64 n] 3)) := by
  obtain ⟨i0, hi, hz0, hz1, hz2⟩ := info_parts iInt
  refine Hp.rowPush h (Sp.bbox _) hgd s x 40 ho i0 _ 8 Try.underlying40 hi hz0 hz1 hz2 rfl (by decide) hs ⟨w.heap.size, 0, none⟩ 1 1 [.int .i64 n] hx rfl ?_ ?_ ?_ ?_ fun v' w' h' hst => ?_
  · intro j u hj
    rw [Addr.add_lit, Nat.zero_add, World.cell?_alloc_new]
    simpa using hj
  · intro u hu; rw [List.mem_singleton.1 hu]; rfl
  · unfold maxLen; omega
  · omega
  · refine K v' w' ?_
    unfold rowI
    rw [List.length_append]
    unfold ints
    rw [List.map_append]
    exact h'
end
def WInv (n : Int) (t out : List Int) (pb : Bool) : Prop := (pb = false ∧ (∀ x ∈ t, x < n) ∧ out = t) ∨ (pb = true ∧ (∃ x ∈ t, n ≤ x) ∧ out = withI n t)
theorem lo_app (n : Int) (t s : List Int) : loI n (t ++ s) = loI n t ++ loI n s := List.filter_append ..
theorem hi_app (n : Int) (t s : List Int) : hiI n (t ++ s) = hiI n t ++ hiI n s := List.filter_append ..
theorem with_all {n : Int} {t : List Int} (h : ∀ x ∈ t, x < n) : withI n t = t ++ [n] := by
  unfold withI
  rw [lo_all h, hi_none fun x hx => Int.le_of_lt (h x hx)]
theorem WInv.start (n : Int) : WInv n [] [] false := .inl ⟨rfl, fun _ h => (nomatch h), rfl⟩
section
variable {n x : Int} {t out : List Int} {pb : Bool}
theorem WInv.lt (h : WInv n t out pb) (ht : ∀ y ∈ t, y < x) (hx : x < n) : pb = false ∧ WInv n (t ++ [x]) (out ++ [x]) false := by
  rcases h with ⟨h1, h2, h3⟩ | ⟨-, ⟨y, hy, h2⟩, -⟩
  · refine ⟨h1, .inl ⟨rfl, fun z hz => ?_, by rw [h3]⟩⟩
    rcases List.mem_append.1 hz with hz | hz
    · exact h2 z hz
    · rw [List.mem_singleton.1 hz]; exact hx
  · have := ht y hy; omega
theorem WInv.here (h : WInv n t out false) (hx : x = n) : WInv n (t ++ [x]) (out ++ [n]) true := by
  rcases h with ⟨-, h2, h3⟩ | ⟨h1, -⟩
  · subst hx
    refine .inr ⟨rfl, ⟨x, by simp, Int.le_refl _⟩, ?_⟩
    unfold withI
    rw [lo_app, hi_app, lo_all h2, hi_none fun y hy => Int.le_of_lt (h2 y hy), h3]
    simp [loI, hiI]
  · cases h1
theorem WInv.above (h : WInv n t out false) (hx : n < x) : WInv n (t ++ [x]) (out ++ [n] ++ [x]) true := by
  rcases h with ⟨-, h2, h3⟩ | ⟨h1, -⟩
  · refine .inr ⟨rfl, ⟨x, by simp, Int.le_of_lt hx⟩, ?_⟩
    have e1 : loI n [x] = [] := lo_none fun y hy => by rw [List.mem_singleton.1 hy]; omega
    have e2 : hiI n [x] = [x] := hi_all fun y hy => by rw [List.mem_singleton.1 hy]; omega
    unfold withI
    rw [lo_app, hi_app, lo_all h2, hi_none fun y hy => Int.le_of_lt (h2 y hy), h3, e1, e2]
    simp
  · cases h1
theorem WInv.more (h : WInv n t out true) (ht : ∀ y ∈ t, y < x) : n < x ∧ WInv n (t ++ [x]) (out ++ [x]) true := by
  rcases h with ⟨h1, -⟩ | ⟨-, ⟨y, hy, h2⟩, h3⟩
  · cases h1
  · have hx : n < x := by have := ht y hy; omega
    refine ⟨hx, .inr ⟨rfl, ⟨x, by simp, Int.le_of_lt hx⟩, ?_⟩⟩
    have e1 : loI n [x] = [] := lo_none fun y hy => by rw [List.mem_singleton.1 hy]; omega
    have e2 : hiI n [x] = [x] := hi_all fun y hy => by rw [List.mem_singleton.1 hy]; omega
    rw [h3]
    unfold withI
    rw [lo_app, hi_app, e1, e2]
    simp
theorem WInv.done (h : WInv n t out pb) : (pb = false → out ++ [n] = withI n t) ∧ (pb = true → out = withI n t) := by
  rcases h with ⟨h1, h2, h3⟩ | ⟨h1, -, h3⟩
  · refine ⟨fun _ => by rw [with_all h2, h3], fun e => ?_⟩
    rw [h1] at e; cases e
  · refine ⟨fun e => ?_, fun _ => h3⟩
    rw [h1] at e; cases e
end
theorem winv_len {n : Int} {t out : List Int} {pb : Bool} (h : WInv n t out pb) : out.length ≤ t.length + 1 := by
  rcases h with ⟨-, -, h3⟩ | ⟨-, -, h3⟩
  · rw [h3]; omega
  · rw [h3]
    unfold withI loI hiI
    rw [List.length_append, List.length_cons]
    have h1 : (t.filter fun x => decide (x < n)).length + (t.filter fun x => decide (n < x)).length ≤ t.length := by
      clear h3
      induction t with
      | nil => simp
      | cons y r ih =>
        by_cases h1 : y < n
        · rw [List.filter_cons_of_pos (by simpa using h1), List.filter_cons_of_neg (by simp; omega), List.length_cons, List.length_cons]; omega
        · rw [List.filter_cons_of_neg (by simpa using h1)]
          by_cases h2 : n < y
          · rw [List.filter_cons_of_pos (by simpa using h2), List.length_cons, List.length_cons]; omega
          · rw [List.filter_cons_of_neg (by simpa using h2), List.length_cons]; omega
    omega
theorem take_up {ids : List Int} (hu : Up ids) {j : Nat} (hj : j < ids.length) : ids.take (j + 1) = ids.take j ++ [ids.getD j 0] ∧ ∀ y ∈ ids.take j, y < ids.getD j 0 := by
  have e : ids.getD j 0 = ids[j] := by simp [List.getD, hj]
  rw [e]
  refine ⟨(List.take_append_getElem hj).symm, fun y hy => ?_⟩
  obtain ⟨i, hi, rfl⟩ := List.mem_iff_getElem.1 hy
  rw [List.length_take] at hi
  rw [List.getElem_take]
  exact List.pairwise_iff_getElem.1 hu i j (by omega) hj (by omega)
section
variable {o w w' wb : World} {l : List Th} {B : Nat} {m : Int} {k : ByteArray} {ids : List Int} {v : Value}
theorem rowI_new (h : Hp o w l) : Hp o (w.alloc (.cells #[] 3)) (rowI (.slice (some ⟨w.heap.size, 0, none⟩) 0 0) [] :: l) :=
  h.rowAdd (Sp.bbox _) (World.ownsRow_made w #[] 0 (Nat.le_refl _) (Nat.zero_le _) rfl) (Nat.le_refl _)
set_option maxHeartbeats 8000000 in
set_option maxRecDepth 100000 in
theorem rwith_calls {a : Option Addr} (h : Hp o w (roT (atRo a ids) :: l)) (hw : Below w.heap.size w wb) (hu : Up ids) (hl : ids.length ≤ 100000) (n : Int) (c : Nat) :
    Calls Try.prog 32 #[.slice a ids.length c, .int .i64 n] wb fun e w' => ∃ v, e = .returned v ∧ Hp o w' (rowI v (withI n ids) :: roT (atRo a ids) :: l) := by
  have H0 := Lib.hid (rowI_new (h.bel hw))
  have HT : Hid (∀ j, j < ids.length → ids.take (j + 1) = ids.take j ++ [ids.getD j 0] ∧ ∀ y ∈ ids.take j, y < ids.getD j 0) := Lib.hid (fun j hj => take_up hu hj)
  clear h hw hu
  go_enter Try.func32, Try.ntmps32
  go_wp2_with fail
  go_loopg [5, 6, 8, 12] (ids.length + 1) (fun g v5 v6 _ vi wr => ∃ (j : Nat) (out : List Int) (pb : Bool), vi = .int .i64 j ∧ j ≤ ids.length ∧ ids.length - j ≤ g ∧ out.length ≤ j + 1 ∧ v6 = .bool pb ∧ Hid (WInv n (ids.take j) out pb) ∧ Hid (Hp o wr (rowI v5 out :: roT (atRo a ids) :: l)))
  case atStart => exact ⟨0, [], false, rfl, by omega, by omega, by decide, rfl, Lib.hid (WInv.start n), H0⟩
  case round =>
    obtain ⟨j, out, pb, rfl, hj, hg, ho, rfl, HI, HH⟩ := hrel
    clear H0
    have hol : out.length ≤ 100001 := by omega
    by_cases hjl : j < ids.length
    case pos =>
      have hjc : (j : Int) < (ids.length : Int) := by omega
      obtain ⟨g0, rfl, hcs⟩ := at_ro (HH.out.pull 1 rfl) (by omega)
      have d0 := hcs j hjl
      obtain ⟨e1, e2⟩ := HT.out j hjl
      have HE1 := Lib.hid e1
      have HE2 := Lib.hid e2
      clear hcs e1 e2
      generalize ids.getD j 0 = x at *
      by_cases hx : x < n
      · obtain ⟨rfl, hI2⟩ := HI.out.lt HE2.out hx
        rw [← HE1.out] at hI2
        have HI2 := Lib.hid hI2
        have hq1 : ¬ n ≤ x := by omega
        have hq2 : (x == n) = false := by rw [beq_eq_false_iff_ne]; omega
        clear hI2 hx
        go_wp2_with (at_builtin; refine iPush HH.out rfl _ _ rfl rfl x rfl (by omega) ?_)
        intro v' w' h'
        have H' := Lib.hid h'
        clear h' d0
        go_wp2_with fail
        go_roundg (gk - 1)
        case measure => omega
        case rel => exact ⟨j + 1, _, false, by go_num, by omega, by omega, by have := winv_len HI2.out; rw [List.length_take] at this; omega, rfl, HI2, H'⟩
      · have hq1 : n ≤ x := by omega
        cases pb with
        | true =>
          obtain ⟨hnx, hI2⟩ := HI.out.more HE2.out
          rw [← HE1.out] at hI2
          have HI2 := Lib.hid hI2
          have hq2 : (x == n) = false := by rw [beq_eq_false_iff_ne]; omega
          clear hI2 hx
          go_wp2_with (at_builtin; refine iPush HH.out rfl _ _ rfl rfl x rfl (by omega) ?_)
          intro v' w' h'
          have H' := Lib.hid h'
          clear h' d0
          go_wp2_with fail
          go_roundg (gk - 1)
          case measure => omega
          case rel => exact ⟨j + 1, _, true, by go_num, by omega, by omega, by have := winv_len HI2.out; rw [List.length_take] at this; omega, rfl, HI2, H'⟩
        | false =>
          by_cases hxn : x = n
          · have hI2 := HI.out.here hxn
            rw [← HE1.out] at hI2
            have HI2 := Lib.hid hI2
            have hq2 : (x == n) = true := by rw [beq_iff_eq]; exact hxn
            clear hI2 hx hxn
            go_wp2_with (at_builtin; refine iPush HH.out rfl _ _ rfl rfl n rfl (by omega) ?_)
            intro v' w' h'
            have H' := Lib.hid h'
            clear h' d0
            go_wp2_with fail
            go_roundg (gk - 1)
            case measure => omega
            case rel => exact ⟨j + 1, _, true, by go_num, by omega, by omega, by have := winv_len HI2.out; rw [List.length_take] at this; omega, rfl, HI2, H'⟩
          · have hI2 := HI.out.above (x := x) (by omega)
            rw [← HE1.out] at hI2
            have HI2 := Lib.hid hI2
            have hq2 : (x == n) = false := by rw [beq_eq_false_iff_ne]; exact hxn
            clear hI2 hx hxn
            go_wp2_with (at_builtin; refine iPush HH.out rfl _ _ rfl rfl n rfl (by omega) ?_)
            intro v' w' h'
            have H' := Lib.hid h'
            clear h' d0
            have hol2 : (out ++ [n]).length ≤ 100002 := by rw [List.length_append, List.length_singleton]; omega
            generalize out ++ [n] = out2 at *
            go_wp2_with (at_builtin; refine iPush H'.out rfl _ _ rfl rfl x rfl (by omega) ?_)
            intro v2 w2 h2
            have H2 := Lib.hid h2
            clear h2
            go_wp2_with fail
            go_roundg (gk - 1)
            case measure => omega
            case rel => exact ⟨j + 1, _, true, by go_num, by omega, by omega, by have := winv_len HI2.out; rw [List.length_take] at this; omega, rfl, HI2, H2⟩
    case neg =>
      have hjc : ¬ ((j : Int) < (ids.length : Int)) := by omega
      obtain rfl : j = ids.length := by omega
      have hd := HI.out.done
      rw [List.take_length] at hd
      cases pb with
      | true =>
        have HD := Lib.hid (hd.2 rfl)
        clear hd
        go_wp2_with fail
        go_ret
        exact ⟨_, rfl, by rw [← HD.out]; exact HH.out⟩
      | false =>
        have HD := Lib.hid (hd.1 rfl)
        clear hd
        go_wp2_with (at_builtin; refine iPush HH.out rfl _ _ rfl rfl n rfl (by omega) ?_)
        intro v' w' h'
        have H' := Lib.hid h'
        clear h'
        go_wp2_with fail
        go_ret
        exact ⟨_, rfl, by rw [← HD.out]; exact H'.out⟩
set_option maxHeartbeats 8000000 in
set_option maxRecDepth 100000 in
theorem sameI_calls (w : World) (a b : Option Addr) (c d : Nat) (L : List Int) (hl : L.length ≤ 1000000) (hA : AtI w a L) (hB : AtI w b L) :
    Calls Try.prog 16 #[.slice a L.length c, .slice b L.length d] w fun e w' => e = .returned (.bool true) ∧ Below w.heap.size w w' := by
  have HA := Lib.hid hA
  have HB := Lib.hid hB
  have H0 := Lib.hid (Below.refl w.heap.size w)
  clear hA hB
  go_enter Try.func16, Try.ntmps16
  go_wp2_with fail
  go_loopg [5, 13] (L.length + 1) (fun g _ vi wr => ∃ j : Nat, vi = .int .i64 j ∧ j ≤ L.length ∧ L.length - j ≤ g ∧ Hid (Below w.heap.size w wr))
  case atStart => exact ⟨0, rfl, by omega, by omega, H0⟩
  case round =>
    obtain ⟨j, rfl, hj, hg, HW⟩ := hrel
    clear H0
    by_cases hjl : j < L.length
    case neg =>
      have hjc : ¬ ((j : Int) < (L.length : Int)) := by omega
      go_wp2_with fail
      go_ret
      exact ⟨rfl, HW.out⟩
    case pos =>
      have hjc : (j : Int) < (L.length : Int) := by omega
      obtain ⟨g1, rfl, e1⟩ := HA.out.below HW.out (by omega)
      obtain ⟨g2, rfl, e2⟩ := HB.out.below HW.out (by omega)
      have d1 := e1 j hjl
      have d2 := e2 j hjl
      clear e1 e2
      have HBe : Hid (∀ n, Below w.heap.size w (wr.drewN n)) := Lib.hid (fun n => Sp.bstep HW.out (drewN_below wr n))
      generalize L.getD j 0 = q at *
      go_wp2_with fail
      go_big_quiet (fail)
      go_wp2_with fail
      go_roundg (gk - 1)
      case measure => omega
      case rel => exact ⟨j + 1, by go_num, by omega, by omega, Lib.hid (HBe.out _)⟩
end
/-- Texts at an address. -/
def AtS (w : World) (a : Option Addr) (l : List ByteArray) : Prop := 0 < l.length → ∃ g, a = some ⟨g, 0, none⟩ ∧ ∀ j (h : j < l.length), w.cell? ⟨g, j, none⟩ = some (.string l[j])
theorem AtS.below {w w' : World} {a : Option Addr} {l : List ByteArray} (h : AtS w a l) (hb : Below w.heap.size w w') : AtS w' a l := fun hp => by
  obtain ⟨g, e, hc⟩ := h hp
  exact ⟨g, e, fun j hj => (hb.cell (p := ⟨g, j, none⟩) (World.block_lt_of_cell? w _ (hc j hj))).trans (hc j hj)⟩
theorem rowS_atS {o w : World} {l : List Th} {a : Option Addr} {c : Nat} {ps : List ByteArray} (h : Hp o w (rowS (.slice a ps.length c) ps :: l)) : AtS w a ps := fun hp => by
  obtain ⟨a', c', e, -, -, hg⟩ := rowS_form h
  injection e with e1 e2 e3
  subst e1
  obtain ⟨g, rfl⟩ := hg hp
  exact ⟨g, rfl, fun j hj => rowS_at h hj⟩
set_option maxHeartbeats 8000000 in
set_option maxRecDepth 100000 in
theorem sameS_calls (w : World) (a b : Option Addr) (c d : Nat) (L : List ByteArray) (hl : L.length ≤ 1000000) (hA : AtS w a L) (hB : AtS w b L) :
    Calls Try.prog 19 #[.slice a L.length c, .slice b L.length d] w fun e w' => e = .returned (.bool true) ∧ Below w.heap.size w w' := by
  have HA := Lib.hid hA
  have HB := Lib.hid hB
  have H0 := Lib.hid (Below.refl w.heap.size w)
  clear hA hB
  go_enter Try.func19, Try.ntmps19
  go_wp2_with fail
  go_loopg [5, 13] (L.length + 1) (fun g _ vi wr => ∃ j : Nat, vi = .int .i64 j ∧ j ≤ L.length ∧ L.length - j ≤ g ∧ Hid (Below w.heap.size w wr))
  case atStart => exact ⟨0, rfl, by omega, by omega, H0⟩
  case round =>
    obtain ⟨j, rfl, hj, hg, HW⟩ := hrel
    clear H0
    by_cases hjl : j < L.length
    case neg =>
      have hjc : ¬ ((j : Int) < (L.length : Int)) := by omega
      go_wp2_with fail
      go_ret
      exact ⟨rfl, HW.out⟩
    case pos =>
      have hjc : (j : Int) < (L.length : Int) := by omega
      obtain ⟨g1, rfl, e1⟩ := HA.out.below HW.out (by omega)
      obtain ⟨g2, rfl, e2⟩ := HB.out.below HW.out (by omega)
      have d1 := e1 j hjl
      have d2 := e2 j hjl
      clear e1 e2
      have HBe : Hid (∀ n, Below w.heap.size w (wr.drewN n)) := Lib.hid (fun n => Sp.bstep HW.out (drewN_below wr n))
      generalize L[j] = q at *
      go_wp2_with fail
      go_big_quiet (fail)
      go_wp2_with fail
      go_roundg (gk - 1)
      case measure => omega
      case rel => exact ⟨j + 1, by go_num, by omega, by omega, Lib.hid (HBe.out _)⟩
end Go.Proofs.Ytnmncjeplfkdpaa.Qa
/- Layer 15's own pairs as a row (rowP); Add, Drop. Conditions: bounds. -/
namespace Go.Proofs.Ytnmncjeplfkdpaa.Qa
set_option linter.unusedVariables false
set_option linter.unusedSimpArgs false
open Go.ChangeShapes Go.WideShapes Go.ChangeAt Go.RowKit
open Ka
open Sp (Th Hp Stays All Ro roT cellsT rowT exT puT star)
def cells2 (p : ByteArray × Int) : List Value := [.string p.1, .int .i64 p.2]
def cellsP (P : Pl) : List Value := P.flatMap cells2
def rowP (v : Value) (P : Pl) : Th := rowT 58 2 v P.length (cellsP P)
theorem cellsP_len : ∀ (P : Pl), (cellsP P).length = P.length * 2
  | [] => rfl
  | p :: P => by
    have := cellsP_len P
    show (cells2 p ++ cellsP P).length = _
    rw [List.length_append, this, List.length_cons]
    show 2 + _ = _
    omega
theorem cellsP_app (P Q : Pl) : cellsP (P ++ Q) = cellsP P ++ cellsP Q := List.flatMap_append ..
theorem cellsP_at : ∀ (P : Pl) (j : Nat) (hj : j < P.length), (cellsP P)[j * 2]? = some (.string P[j].1) ∧ (cellsP P)[j * 2 + 1]? = some (.int .i64 P[j].2)
  | [], j, hj => absurd hj (Nat.not_lt_zero _)
  | p :: P, 0, _ => ⟨rfl, rfl⟩
  | p :: P, j + 1, hj => by
    have h := cellsP_at P j (by simpa using hj)
    have e1 : (j + 1) * 2 = j * 2 + 2 := by omega
    rw [e1, show j * 2 + 2 + 1 = j * 2 + 1 + 2 by omega]
    exact h
theorem cellsP_one (P : Pl) : ∀ u ∈ cellsP P, u.oneCell' = true := fun u hu => by
  obtain ⟨p, _, hp⟩ := List.mem_flatMap.1 hu
  simp only [cells2, List.mem_cons, List.not_mem_nil, or_false] at hp
  rcases hp with rfl | rfl <;> rfl
theorem iPair : (Try.prog.info? 58).map (fun i => (i.zero, i.size, i.bytes)) = some (some (.agg #[.string ⟨#[]⟩, .int .i64 0]), 2, 24) := by kernel_rfl
theorem eqlP (w : World) (x y : ByteArray) (z t : Int) : (binOp .eql 58 (.agg #[.string x, .int .i64 z]) (.agg #[.string y, .int .i64 t])).run Try.prog w = .ok (.bool ((x.toList == y.toList) && (z == t))) w := by
  have hS : Try.prog.underlying 58 = some (.struct (Try.prog.fieldsOf 58)) := by kernel_rfl
  have hp : Try.prog.stoodInHeld 58 = false := by kernel_rfl
  rw [run_eql_struct, show (10000 : Nat) = 9999 + 1 from rfl, run_equalIn_agg w 9999 58 _ _ hS hp]
  have u1 : Try.prog.underlying 9 = some .string := by kernel_rfl
  have u2 : Try.prog.underlying 3 = some (.int .i64) := by kernel_rfl
  have uM := Try.underlying58
  simp only [Program.fieldsOf, uM]
  go_simp
  by_cases h1 : x.toList = y.toList <;> by_cases h2 : z = t <;> simp [h1, h2]
section
variable {o w w' wb : World} {l : List Th} {P : Pl} {k : ByteArray} {n : Int} {g c : Nat}
theorem rowP_at (h : Hp o w (rowP (.slice (some ⟨g, 0, none⟩) P.length c) P :: l)) {j : Nat} (hj : j < P.length) : w.cell? ⟨g, j * 2, none⟩ = some (.string P[j].1) ∧ w.cell? ⟨g, j * 2 + 1, none⟩ = some (.int .i64 P[j].2) := by
  obtain ⟨h1, h2⟩ := cellsP_at P j hj
  exact ⟨(Hp.rowCell h (j := j * 2) (by omega)).trans h1, (Hp.rowCell h (j := j * 2 + 1) (by omega)).trans h2⟩
theorem rowP_new (h : Hp o w l) : Hp o (w.alloc (.cells #[] 58)) (rowP (.slice (some ⟨w.heap.size, 0, none⟩) 0 0) [] :: l) :=
  h.rowAdd (Sp.bbox _) (World.ownsRow_made w #[] 0 (Nat.le_refl _) (Nat.zero_le _) rfl) (Nat.le_refl _)
/-- append of pairs that lie. -/
theorem pPush {ops : Array Oper} {rest : List Oper} {op : Oper} {a : Act} {Q : Exit → Act → World → Prop} (h : Hp o w (rowP (.slice (some ⟨g, 0, none⟩) P.length c) P :: l)) (hw : Below w.heap.size w wb) (hgd : op.guard = none) (s x : Operand)
    (ho : op.op = .call { callee := .builtin .append, args := #[s, x], argTypes := #[26, 26] }) (m : Nat) (hm : m = P.length) (hs : a.eval s = .slice (some ⟨g, 0, none⟩) m c) (R : Pl) {b cx mx : Nat} (hmx : mx = R.length) (hx : a.eval x = .slice (some ⟨b, 0, none⟩) mx cx)
    (hc : ∀ j u, (cellsP R)[j]? = some u → wb.cell? ⟨b, j, none⟩ = some u) (hn : P.length ≤ 1000000) (hn2 : R.length ≤ 1000000)
    (D : Pl) (hD : P ++ R = D) (K : ∀ (g' c' : Nat) w', Hp o w' (rowP (.slice (some ⟨g', 0, none⟩) D.length c') D :: l) → wpList Try.prog ops Q rest (a.put op.dst (.slice (some ⟨g', 0, none⟩) D.length c')) w') :
    wpList Try.prog ops Q (op :: rest) a wb := by
  subst hm hmx hD
  obtain ⟨i0, hi, hz0, hz1, hz2⟩ := info_parts iPair
  refine Sp.Hp.rowPushS h hw hgd s x 26 ho i0 _ 24 Try.underlying26 hi hz0 hz1 hz2 rfl (by decide) hs ⟨b, 0, none⟩ R.length cx (cellsP R) hx (cellsP_len R) (fun j u hj => ?_) (cellsP_one R) ?_ ?_ fun g' c' w' h' => ?_
  · rw [Addr.add_lit, Nat.zero_add]; exact hc j u hj
  · unfold maxLen; omega
  · omega
  · have h1 : Hp o w' (rowP (.slice (some ⟨g', 0, none⟩) (P ++ R).length c') (P ++ R) :: l) := by
      unfold rowP
      rw [List.length_append, cellsP_app]
      exact h'
    have := K g' c' w' h1
    rwa [List.length_append] at this
theorem one_cells {w : World} (k : ByteArray) (n : Int) (T : TypeId) : ∀ j u, (cellsP [(k, n)])[j]? = some u → (w.alloc (.cells #[.string k, .int .i64 n] T)).cell? ⟨w.heap.size, j, none⟩ = some u := fun j u hj => by
  rw [World.cell?_alloc_new]
  simpa [cellsP, cells2] using hj
theorem row_cells (h : Hp o w (rowP (.slice (some ⟨g, 0, none⟩) P.length c) P :: l)) : ∀ j u, (cellsP P)[j]? = some u → w.cell? ⟨g, j, none⟩ = some u := fun j u hj => by
  have hl := (List.getElem?_eq_some_iff.1 hj).1
  rw [cellsP_len] at hl
  exact (Hp.rowCell h hl).trans hj
set_option maxHeartbeats 8000000 in
set_option maxRecDepth 100000 in
theorem radd_calls (h : Hp o w (rowP (.slice (some ⟨g, 0, none⟩) P.length c) P :: l)) (hw : Below w.heap.size w wb) (hP : P.length ≤ 100000) (k : ByteArray) (n : Int) :
    Calls Try.prog 8 #[.slice (some ⟨g, 0, none⟩) P.length c, .string k, .int .i64 n] wb fun e w' => ∃ g' c', e = .returned (.tuple #[.slice (some ⟨g', 0, none⟩) (addP k n P).length c', .bool (!decide ((k, n) ∈ P))]) ∧ Hp o w' (rowP (.slice (some ⟨g', 0, none⟩) (addP k n P).length c') (addP k n P) :: l) := by
  have H0 := Lib.hid (h.bel hw)
  clear h hw
  go_enter Try.func8, Try.ntmps8
  go_wp2_with fail
  go_loopg [9, 12] (P.length + 1) (fun gg _ vi wr => ∃ j : Nat, vi = .int .i64 j ∧ j ≤ P.length ∧ P.length - j ≤ gg ∧ Hid ((k, n) ∉ P.take j) ∧ Hid (Hp o wr (rowP (.slice (some ⟨g, 0, none⟩) P.length c) P :: l)))
  case atStart => exact ⟨0, rfl, by omega, by omega, Lib.hid (by simp), H0⟩
  case round =>
    obtain ⟨j, rfl, hj, hg, HNo, HH⟩ := hrel
    clear H0
    by_cases hjl : j < P.length
    case pos =>
      have hjc : (j : Int) < (P.length : Int) := by omega
      obtain ⟨d0, d1⟩ := rowP_at HH.out hjl
      have HBx := Lib.hid (fun O => HH.out.bel (Sp.bbox (w := wr) O))
      have HYes : Hid (P[j] = (k, n) → addP k n P = P ∧ decide ((k, n) ∈ P) = true) := Lib.hid (fun e => by
        have hm : (k, n) ∈ P := e ▸ List.getElem_mem hjl
        exact ⟨if_pos hm, decide_eq_true hm⟩)
      have HNx : Hid (P[j] ≠ (k, n) → (k, n) ∉ P.take (j + 1)) := Lib.hid (fun hne => by
        rw [← List.take_append_getElem hjl, List.mem_append, List.mem_singleton]
        rintro (h | h)
        · exact HNo.out h
        · exact hne h.symm)
      generalize P[j] = q at *
      obtain ⟨x, z⟩ := q
      simp only at d0 d1
      have hgt : Try.prog.eqGuardType Try.prog.depth 58 = false := by kernel_rfl
      have hnq := fun w2 => eqlP w2 x k z n
      cases he : ((x.toList == k.toList) && (z == n))
      case true =>
        simp only [he] at hnq
        have e0 : (x, z) = (k, n) := Pa.mk_eq he
        obtain ⟨e1, e2⟩ := HYes.out e0
        have HE1 := Lib.hid e1
        have HE2 := Lib.hid e2
        clear he e1 e2 e0 HYes HNx
        go_wp2_with fail
        go_ret2
        rw [HE1.out, HE2.out]
        exact ⟨g, c, rfl, HBx.out _⟩
      case false =>
        simp only [he] at hnq
        have HN2 := Lib.hid (HNx.out (Pa.mk_ne he))
        clear he HYes HNx
        go_wp2_with fail
        go_roundg (gk - 1)
        case measure => omega
        case rel => exact ⟨j + 1, by go_num, by omega, by omega, HN2, Lib.hid (HBx.out _)⟩
    case neg =>
      have hjc : ¬ (j : Int) < (P.length : Int) := by omega
      obtain rfl : j = P.length := by omega
      rw [List.take_length] at HNo
      have HA : Hid (addP k n P = P ++ [(k, n)]) := Lib.hid (if_neg HNo.out)
      have HD : Hid (decide ((k, n) ∈ P) = false) := Lib.hid (decide_eq_false HNo.out)
      have HN := Lib.hid (rowP_new HH.out)
      have HC := Lib.hid (row_cells (HN.out.pull 1 rfl))
      have h0 : ([] : Pl).length ≤ 1000000 := by decide
      go_wp2_with (at_builtin; refine pPush HN.out (Below.refl _ _) rfl _ _ rfl 0 rfl rfl P rfl rfl HC.out h0 (by omega) P rfl ?_)
      intro g5 c5 w5 h5
      have H5 : Hid (Hp o w5 (rowP (.slice (some ⟨g5, 0, none⟩) P.length c5) P :: rowP (.slice (some ⟨g, 0, none⟩) P.length c) P :: l)) := Lib.hid h5
      clear h5 HN HC HH
      have HB5 := Lib.hid (Sp.bbox (w := w5))
      have HO := Lib.hid (one_cells (w := w5) k n)
      have h1 : [(k, n)].length ≤ 1000000 := by simp
      go_wp2_with (at_builtin; refine pPush H5.out (HB5.out _) rfl _ _ rfl P.length rfl rfl [(k, n)] rfl rfl (HO.out _) (by omega) h1 (addP k n P) HA.out.symm ?_)
      intro g6 c6 w6 h6
      have H6 := Lib.hid h6
      clear h6
      go_wp2_with fail
      go_ret2
      rw [HD.out]
      exact ⟨g6, c6, rfl, H6.out.dropAt 1 rfl⟩
theorem dropP_take {P : Pl} {n : Int} {j : Nat} (hj : j < P.length) : dropP n (P.take (j + 1)) = dropP n (P.take j) ++ (if P[j].2 = n then [] else [P[j]]) := by
  unfold dropP
  rw [← List.take_append_getElem hj, List.filter_append]
  by_cases h : P[j].2 = n
  · rw [if_pos h, List.filter_cons_of_neg (by simp [h])]; rfl
  · rw [if_neg h, List.filter_cons_of_pos (by simp [h])]; rfl
theorem dropP_le (n : Int) (P : Pl) : (dropP n P).length ≤ P.length := List.length_filter_le _ _
set_option maxHeartbeats 8000000 in
set_option maxRecDepth 100000 in
theorem rdropP_calls (h : Hp o w (rowP (.slice (some ⟨g, 0, none⟩) P.length c) P :: l)) (hw : Below w.heap.size w wb) (hP : P.length ≤ 100000) (n : Int) :
    Calls Try.prog 10 #[.slice (some ⟨g, 0, none⟩) P.length c, .int .i64 n] wb fun e w' => ∃ g' c', e = .returned (.tuple #[.slice (some ⟨g', 0, none⟩) (dropP n P).length c', .int .i64 ((P.length - (dropP n P).length : Nat) : Int)]) ∧ Hp o w' (rowP (.slice (some ⟨g', 0, none⟩) (dropP n P).length c') (dropP n P) :: l) := by
  have H0 : Hid (Hp o (wb.alloc (.cells #[] 58)) (rowP (.slice (some ⟨wb.heap.size, 0, none⟩) 0 0) [] :: rowP (.slice (some ⟨g, 0, none⟩) P.length c) P :: l)) := Lib.hid (rowP_new (h.bel hw))
  clear h hw
  go_enter Try.func10, Try.ntmps10
  go_wp2_with fail
  go_loopg [6, 8, 12] (P.length + 1) (fun gg v6 _ vi wr => ∃ (j g' c' m' : Nat), vi = .int .i64 j ∧ j ≤ P.length ∧ P.length - j ≤ gg ∧ v6 = .slice (some ⟨g', 0, none⟩) m' c' ∧ Hid (m' = (dropP n (P.take j)).length) ∧ Hid (Hp o wr (rowP (.slice (some ⟨g', 0, none⟩) (dropP n (P.take j)).length c') (dropP n (P.take j)) :: rowP (.slice (some ⟨g, 0, none⟩) P.length c) P :: l)))
  case atStart => exact ⟨0, _, _, _, rfl, by omega, by omega, rfl, Lib.hid rfl, H0⟩
  case round =>
    obtain ⟨j, g1, c1, m1, rfl, hj, hg, rfl, HM, HH⟩ := hrel
    clear H0
    have hol : (dropP n (P.take j)).length ≤ 100000 := by
      have := dropP_le n (P.take j)
      rw [List.length_take] at this; omega
    by_cases hjl : j < P.length
    case pos =>
      have hjc : (j : Int) < (P.length : Int) := by omega
      obtain ⟨d0, d1⟩ := rowP_at (HH.out.pull 1 rfl) hjl
      have HT := Lib.hid (dropP_take (n := n) hjl)
      generalize dropP n (P.take j) = D at *
      generalize P[j] = q at *
      obtain ⟨x, z⟩ := q
      simp only at d0 d1 HT
      have HBx := Lib.hid (HH.out.bel (Sp.bbox (.cells #[.string x, .int .i64 z] 58)))
      by_cases hz : z = n
      · rw [if_pos hz, List.append_nil] at HT
        have hq : (z != n) = false := by rw [hz]; simp
        clear hz
        go_wp2_with fail
        go_roundg (gk - 1)
        case measure => omega
        case rel => exact ⟨j + 1, g1, c1, m1, by go_num, by omega, by omega, rfl, by rw [HT.out]; exact HM, by rw [HT.out]; exact HBx⟩
      · rw [if_neg hz] at HT
        have hq : (z != n) = true := by rw [bne_iff_ne]; exact hz
        have HB2 : Hid (∀ O1 O2, Below wr.heap.size wr ((wr.alloc O1).alloc O2)) := Lib.hid (fun O1 O2 => Sp.bstep (Sp.bbox O1) (Sp.bbox O2))
        have HO : Hid (∀ O1, ∀ j u, (cellsP [(x, z)])[j]? = some u → ((wr.alloc O1).alloc (.cells #[.string x, .int .i64 z] 58)).cell? ⟨wr.heap.size + 1, j, none⟩ = some u) := Lib.hid (fun O1 => by
          have := one_cells (w := wr.alloc O1) x z 58
          rwa [show (wr.alloc O1).heap.size = wr.heap.size + 1 by simp] at this)
        have h1 : [(x, z)].length ≤ 1000000 := by simp
        obtain rfl := HM.out
        clear hz HBx
        go_wp2_with (at_builtin; refine pPush HH.out (HB2.out _ _) rfl _ _ rfl D.length rfl rfl [(x, z)] rfl rfl (HO.out _) (by omega) h1 (dropP n (P.take (j + 1))) HT.out.symm ?_)
        intro g6 c6 w6 h6
        have H6 := Lib.hid h6
        clear h6
        go_wp2_with fail
        go_roundg (gk - 1)
        case measure => omega
        case rel => exact ⟨j + 1, g6, c6, _, by go_num, by omega, by omega, rfl, Lib.hid rfl, H6⟩
    case neg =>
      have hjc : ¬ (j : Int) < (P.length : Int) := by omega
      obtain rfl : j = P.length := by omega
      rw [List.take_length] at HH hol HM
      have hle := dropP_le n P
      have hwr : IntKind.i64.wrap ((P.length : Int) - ((dropP n P).length : Int)) = ((P.length - (dropP n P).length : Nat) : Int) := by rw [IntKind.wrap_i64]; omega
      obtain rfl := HM.out
      have H9 := Lib.hid (HH.out.dropAt 1 rfl)
      clear HH hle
      go_wp2_with fail
      go_ret2
      exact ⟨g1, c1, rfl, H9.out⟩
end
end Go.Proofs.Ytnmncjeplfkdpaa.Qa
