/- Layer 14, the checking package's With, Same, Ids. Conditions: they lie; rising; bounds. -/
import Derived.Test.YtkpcobaklbfpcaaKr1
namespace Go.Proofs.Ytkpcobaklbfpcaa.Ka
set_option linter.unusedVariables false
set_option linter.unusedSimpArgs false
open Go.ChangeShapes Go.WideShapes Go.ChangeAt Go.RowKit
open Sp (Th Hp Stays All Ro roT cellsT rowT exT puT star)
open Ca (inK inK_iff inK_false dropK dropK_none)
def WInv (n : Int) (t out : List Int) (pb : Bool) : Prop := (pb = false ∧ (∀ x ∈ t, x < n) ∧ out = t) ∨ (pb = true ∧ (∃ x ∈ t, n ≤ x) ∧ out = withI n t)
theorem lo_app (n : Int) (t s : List Int) : loI n (t ++ s) = loI n t ++ loI n s := List.filter_append ..
theorem hi_app (n : Int) (t s : List Int) : hiI n (t ++ s) = hiI n t ++ hiI n s := List.filter_append ..
theorem with_all {n : Int} {t : List Int} (h : ∀ x ∈ t, x < n) : withI n t = t ++ [n] := by
  unfold withI
  rw [lo_all h, hi_none fun x hx => Int.le_of_lt (h x hx)]
theorem WInv.start (n : Int) : WInv n [] [] false := .inl ⟨rfl, fun _ h => (nomatch h), rfl⟩
section
variable {n x : Int} {t out : List Int} {pb : Bool}
theorem WInv.lt (h : WInv n t out pb) (ht : ∀ y ∈ t, y < x) (hx : x < n) : pb = false ∧ WInv n (t ++ [x]) (out ++ [x]) false := by
  rcases h with ⟨h1, h2, h3⟩ | ⟨-, ⟨y, hy, h2⟩, -⟩
  · refine ⟨h1, .inl ⟨rfl, fun z hz => ?_, by rw [h3]⟩⟩
    rcases List.mem_append.1 hz with hz | hz
    · exact h2 z hz
    · rw [List.mem_singleton.1 hz]; exact hx
  · have := ht y hy; omega
theorem WInv.here (h : WInv n t out false) (hx : x = n) : WInv n (t ++ [x]) (out ++ [n]) true := by
  rcases h with ⟨-, h2, h3⟩ | ⟨h1, -⟩
  · subst hx
    refine .inr ⟨rfl, ⟨x, by simp, Int.le_refl _⟩, ?_⟩
    unfold withI
    rw [lo_app, hi_app, lo_all h2, hi_none fun y hy => Int.le_of_lt (h2 y hy), h3]
    simp [loI, hiI]
  · cases h1
theorem WInv.above (h : WInv n t out false) (hx : n < x) : WInv n (t ++ [x]) (out ++ [n] ++ [x]) true := by
  rcases h with ⟨-, h2, h3⟩ | ⟨h1, -⟩
  · refine .inr ⟨rfl, ⟨x, by simp, Int.le_of_lt hx⟩, ?_⟩
    have e1 : loI n [x] = [] := lo_none fun y hy => by rw [List.mem_singleton.1 hy]; omega
    have e2 : hiI n [x] = [x] := hi_all fun y hy => by rw [List.mem_singleton.1 hy]; omega
    unfold withI
    rw [lo_app, hi_app, lo_all h2, hi_none fun y hy => Int.le_of_lt (h2 y hy), h3, e1, e2]
    simp
  · cases h1
theorem WInv.more (h : WInv n t out true) (ht : ∀ y ∈ t, y < x) : n < x ∧ WInv n (t ++ [x]) (out ++ [x]) true := by
  rcases h with ⟨h1, -⟩ | ⟨-, ⟨y, hy, h2⟩, h3⟩
  · cases h1
  · have hx : n < x := by have := ht y hy; omega
    refine ⟨hx, .inr ⟨rfl, ⟨x, by simp, Int.le_of_lt hx⟩, ?_⟩⟩
    have e1 : loI n [x] = [] := lo_none fun y hy => by rw [List.mem_singleton.1 hy]; omega
    have e2 : hiI n [x] = [x] := hi_all fun y hy => by rw [List.mem_singleton.1 hy]; omega
    rw [h3]
    unfold withI
    rw [lo_app, hi_app, e1, e2]
    simp
theorem WInv.done (h : WInv n t out pb) : (pb = false → out ++ [n] = withI n t) ∧ (pb = true → out = withI n t) := by
  rcases h with ⟨h1, h2, h3⟩ | ⟨h1, -, h3⟩
  · refine ⟨fun _ => by rw [with_all h2, h3], fun e => ?_⟩
    rw [h1] at e; cases e
  · refine ⟨fun e => ?_, fun _ => h3⟩
    rw [h1] at e; cases e
end
theorem winv_len {n : Int} {t out : List Int} {pb : Bool} (h : WInv n t out pb) : out.length ≤ t.length + 1 := by
  rcases h with ⟨-, -, h3⟩ | ⟨-, -, h3⟩
  · rw [h3]; omega
  · rw [h3]
    unfold withI loI hiI
    rw [List.length_append, List.length_cons]
    have h1 : (t.filter fun x => decide (x < n)).length + (t.filter fun x => decide (n < x)).length ≤ t.length := by
      clear h3
      induction t with
      | nil => simp
      | cons y r ih =>
        by_cases h1 : y < n
        · rw [List.filter_cons_of_pos (by simpa using h1), List.filter_cons_of_neg (by simp; omega), List.length_cons, List.length_cons]; omega
        · rw [List.filter_cons_of_neg (by simpa using h1)]
          by_cases h2 : n < y
          · rw [List.filter_cons_of_pos (by simpa using h2), List.length_cons, List.length_cons]; omega
          · rw [List.filter_cons_of_neg (by simpa using h2), List.length_cons]; omega
    omega
theorem take_up {ids : List Int} (hu : Up ids) {j : Nat} (hj : j < ids.length) : ids.take (j + 1) = ids.take j ++ [ids.getD j 0] ∧ ∀ y ∈ ids.take j, y < ids.getD j 0 := by
  have e : ids.getD j 0 = ids[j] := by simp [List.getD, hj]
  rw [e]
  refine ⟨(List.take_append_getElem hj).symm, fun y hy => ?_⟩
  obtain ⟨i, hi, rfl⟩ := List.mem_iff_getElem.1 hy
  rw [List.length_take] at hi
  rw [List.getElem_take]
  exact List.pairwise_iff_getElem.1 hu i j (by omega) hj (by omega)
section
variable {o w w' wb : World} {l : List Th} {B : Nat} {m : Int} {S : Rows} {k : ByteArray} {ids : List Int} {v : Value}
theorem rowI_new (h : Hp o w l) : Hp o (w.alloc (.cells #[] 3)) (rowI (.slice (some ⟨w.heap.size, 0, none⟩) 0 0) [] :: l) :=
  h.rowAdd (Sp.bbox _) (World.ownsRow_made w #[] 0 (Nat.le_refl _) (Nat.zero_le _) rfl) (Nat.le_refl _)
set_option maxHeartbeats 8000000 in
set_option maxRecDepth 100000 in
theorem rwith_calls {a : Option Addr} (h : Hp o w (roT (atRo a ids) :: l)) (hw : Below w.heap.size w wb) (hu : Up ids) (hl : ids.length ≤ 100000) (n : Int) (c : Nat) :
    Calls Try.prog 26 #[.slice a ids.length c, .int .i64 n] wb fun e w' => ∃ v, e = .returned v ∧ Hp o w' (rowI v (withI n ids) :: roT (atRo a ids) :: l) := by
  have H0 := Lib.hid (rowI_new (h.bel hw))
  have HT : Hid (∀ j, j < ids.length → ids.take (j + 1) = ids.take j ++ [ids.getD j 0] ∧ ∀ y ∈ ids.take j, y < ids.getD j 0) := Lib.hid (fun j hj => take_up hu hj)
  clear h hw hu
  go_enter Try.func26, Try.ntmps26
  go_wp2_with fail
  go_loopg [5, 6, 8, 12] (ids.length + 1) (fun g v5 v6 _ vi wr => ∃ (j : Nat) (out : List Int) (pb : Bool), vi = .int .i64 j ∧ j ≤ ids.length ∧ ids.length - j ≤ g ∧ out.length ≤ j + 1 ∧ v6 = .bool pb ∧ Hid (WInv n (ids.take j) out pb) ∧ Hid (Hp o wr (rowI v5 out :: roT (atRo a ids) :: l)))
  case atStart => exact ⟨0, [], false, rfl, by omega, by omega, by decide, rfl, Lib.hid (WInv.start n), H0⟩
  case round =>
    obtain ⟨j, out, pb, rfl, hj, hg, ho, rfl, HI, HH⟩ := hrel
    clear H0
    have hol : out.length ≤ 100001 := by omega
    by_cases hjl : j < ids.length
    case pos =>
      have hjc : (j : Int) < (ids.length : Int) := by omega
      obtain ⟨g0, rfl, hcs⟩ := at_ro (HH.out.pull 1 rfl) (by omega)
      have d0 := hcs j hjl
      obtain ⟨e1, e2⟩ := HT.out j hjl
      have HE1 := Lib.hid e1
      have HE2 := Lib.hid e2
      clear hcs e1 e2
      generalize ids.getD j 0 = x at *
      by_cases hx : x < n
      · obtain ⟨rfl, hI2⟩ := HI.out.lt HE2.out hx
        rw [← HE1.out] at hI2
        have HI2 := Lib.hid hI2
        have hq1 : ¬ n ≤ x := by omega
        have hq2 : (x == n) = false := by rw [beq_eq_false_iff_ne]; omega
        clear hI2 hx
        go_wp2_with (at_builtin; refine iPush HH.out rfl _ _ rfl rfl x rfl (by omega) ?_)
        intro v' w' h'
        have H' := Lib.hid h'
        clear h' d0
        go_wp2_with fail
        go_roundg (gk - 1)
        case measure => omega
        case rel => exact ⟨j + 1, _, false, by go_num, by omega, by omega, by have := winv_len HI2.out; rw [List.length_take] at this; omega, rfl, HI2, H'⟩
      · have hq1 : n ≤ x := by omega
        cases pb with
        | true =>
          obtain ⟨hnx, hI2⟩ := HI.out.more HE2.out
          rw [← HE1.out] at hI2
          have HI2 := Lib.hid hI2
          have hq2 : (x == n) = false := by rw [beq_eq_false_iff_ne]; omega
          clear hI2 hx
          go_wp2_with (at_builtin; refine iPush HH.out rfl _ _ rfl rfl x rfl (by omega) ?_)
          intro v' w' h'
          have H' := Lib.hid h'
          clear h' d0
          go_wp2_with fail
          go_roundg (gk - 1)
          case measure => omega
          case rel => exact ⟨j + 1, _, true, by go_num, by omega, by omega, by have := winv_len HI2.out; rw [List.length_take] at this; omega, rfl, HI2, H'⟩
        | false =>
          by_cases hxn : x = n
          · have hI2 := HI.out.here hxn
            rw [← HE1.out] at hI2
            have HI2 := Lib.hid hI2
            have hq2 : (x == n) = true := by rw [beq_iff_eq]; exact hxn
            clear hI2 hx hxn
            go_wp2_with (at_builtin; refine iPush HH.out rfl _ _ rfl rfl n rfl (by omega) ?_)
            intro v' w' h'
            have H' := Lib.hid h'
            clear h' d0
            go_wp2_with fail
            go_roundg (gk - 1)
            case measure => omega
            case rel => exact ⟨j + 1, _, true, by go_num, by omega, by omega, by have := winv_len HI2.out; rw [List.length_take] at this; omega, rfl, HI2, H'⟩
          · have hI2 := HI.out.above (x := x) (by omega)
            rw [← HE1.out] at hI2
            have HI2 := Lib.hid hI2
            have hq2 : (x == n) = false := by rw [beq_eq_false_iff_ne]; exact hxn
            clear hI2 hx hxn
            go_wp2_with (at_builtin; refine iPush HH.out rfl _ _ rfl rfl n rfl (by omega) ?_)
            intro v' w' h'
            have H' := Lib.hid h'
            clear h' d0
            have hol2 : (out ++ [n]).length ≤ 100002 := by rw [List.length_append, List.length_singleton]; omega
            generalize out ++ [n] = out2 at *
            go_wp2_with (at_builtin; refine iPush H'.out rfl _ _ rfl rfl x rfl (by omega) ?_)
            intro v2 w2 h2
            have H2 := Lib.hid h2
            clear h2
            go_wp2_with fail
            go_roundg (gk - 1)
            case measure => omega
            case rel => exact ⟨j + 1, _, true, by go_num, by omega, by omega, by have := winv_len HI2.out; rw [List.length_take] at this; omega, rfl, HI2, H2⟩
    case neg =>
      have hjc : ¬ ((j : Int) < (ids.length : Int)) := by omega
      obtain rfl : j = ids.length := by omega
      have hd := HI.out.done
      rw [List.take_length] at hd
      cases pb with
      | true =>
        have HD := Lib.hid (hd.2 rfl)
        clear hd
        go_wp2_with fail
        go_ret
        exact ⟨_, rfl, by rw [← HD.out]; exact HH.out⟩
      | false =>
        have HD := Lib.hid (hd.1 rfl)
        clear hd
        go_wp2_with (at_builtin; refine iPush HH.out rfl _ _ rfl rfl n rfl (by omega) ?_)
        intro v' w' h'
        have H' := Lib.hid h'
        clear h'
        go_wp2_with fail
        go_ret
        exact ⟨_, rfl, by rw [← HD.out]; exact H'.out⟩
set_option maxHeartbeats 8000000 in
set_option maxRecDepth 100000 in
theorem sameI_calls (w : World) (a b : Option Addr) (c d : Nat) (L : List Int) (hl : L.length ≤ 1000000) (hA : AtI w a L) (hB : AtI w b L) :
    Calls Try.prog 11 #[.slice a L.length c, .slice b L.length d] w fun e w' => e = .returned (.bool true) ∧ Below w.heap.size w w' := by
  have HA := Lib.hid hA
  have HB := Lib.hid hB
  have H0 := Lib.hid (Below.refl w.heap.size w)
  clear hA hB
  go_enter Try.func11, Try.ntmps11
  go_wp2_with fail
  go_loopg [5, 13] (L.length + 1) (fun g _ vi wr => ∃ j : Nat, vi = .int .i64 j ∧ j ≤ L.length ∧ L.length - j ≤ g ∧ Hid (Below w.heap.size w wr))
  case atStart => exact ⟨0, rfl, by omega, by omega, H0⟩
  case round =>
    obtain ⟨j, rfl, hj, hg, HW⟩ := hrel
    clear H0
    by_cases hjl : j < L.length
    case neg =>
      have hjc : ¬ ((j : Int) < (L.length : Int)) := by omega
      go_wp2_with fail
      go_ret
      exact ⟨rfl, HW.out⟩
    case pos =>
      have hjc : (j : Int) < (L.length : Int) := by omega
      obtain ⟨g1, rfl, e1⟩ := HA.out.below HW.out (by omega)
      obtain ⟨g2, rfl, e2⟩ := HB.out.below HW.out (by omega)
      have d1 := e1 j hjl
      have d2 := e2 j hjl
      clear e1 e2
      have HBe : Hid (∀ n, Below w.heap.size w (wr.drewN n)) := Lib.hid (fun n => Sp.bstep HW.out (drewN_below wr n))
      generalize L.getD j 0 = q at *
      go_wp2_with fail
      go_big_quiet (fail)
      go_wp2_with fail
      go_roundg (gk - 1)
      case measure => omega
      case rel => exact ⟨j + 1, by go_num, by omega, by omega, Lib.hid (HBe.out _)⟩
end
end Go.Proofs.Ytkpcobaklbfpcaa.Ka
