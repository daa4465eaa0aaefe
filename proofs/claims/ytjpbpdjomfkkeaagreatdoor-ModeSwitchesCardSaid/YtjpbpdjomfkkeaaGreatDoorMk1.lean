/- The document's Caching, Tracks, Flags of layer 13; Same of texts. No condition but bounds. -/
import Derived.Test.YtjpbpdjomfkkeaaGreatDoorMd2
import Derived.Test.YtjpbpdjomfkkeaaGreatDoorMb7
namespace Go.Proofs.YtjpbpdjomfkkeaaGreatDoor.Ma
set_option linter.unusedVariables false
set_option linter.unusedSimpArgs false
open Go.ChangeShapes Go.WideShapes Go.ChangeAt Go.RowKit
open Go.Proofs.YtjpbpdjomfkkeaaGreatDoor.Sp (bstep bbox Hp Th cellsT rowT)
set_option maxHeartbeats 4000000 in
theorem refCaching_calls (w : World) (m : Md) (a : Option Addr) (c : Nat) (yes : Bool) (r : Int) (hr : cachingM m yes = r) :
    Calls Tryz.prog 12 #[mV m a c, .bool yes] w fun e w' => e = .returned (.int .i64 r) ∧ Below w.heap.size w w' := by
  obtain ⟨on, bc, oi, oo, nl, rd, ps⟩ := m
  unfold mV
  unfold cachingM at hr
  simp only at hr ⊢
  cases on <;> cases yes <;> cases oi <;> cases oo <;>
  · simp at hr
    subst hr
    go_enter Tryz.func12, Tryz.ntmps12
    go_wp2_with fail
    go_ret
    exact ⟨rfl, bbox _⟩
set_option maxHeartbeats 4000000 in
theorem refTracks_calls (w : World) (m : Md) (a : Option Addr) (c : Nat) (k : Int) (r : Bool) (hr : tracksM m k = r) :
    Calls Tryz.prog 14 #[mV m a c, .int .i64 k] w fun e w' => e = .returned (.bool r) ∧ Below w.heap.size w w' := by
  obtain ⟨on, bc, oi, oo, nl, rd, ps⟩ := m
  unfold mV
  unfold tracksM at hr
  simp only at hr ⊢
  subst hr
  cases on <;> cases bc <;> cases oi <;> cases oo <;>
  · 
    go_enter Tryz.func14, Tryz.ntmps14
    go_wp2_with fail
    all_goals
      go_ret
      refine ⟨?_, bbox _⟩
      first | rfl | (simp; done) | (simp [*]; done) | (simp; omega) | (simp_all; done)
set_option maxHeartbeats 8000000 in
set_option maxRecDepth 100000 in
theorem sameT_calls (w : World) (a b : Option Addr) (c d : Nat) (L : List BA) (hl : L.length ≤ 1000000) (hA : InS w a L) (hB : InS w b L) :
    Calls Tryz.prog 15 #[.slice a L.length c, .slice b L.length d] w fun e w' => e = .returned (.bool true) ∧ Below w.heap.size w w' := by
  have HA := Lib.hid hA
  have HB := Lib.hid hB
  have H0 := Lib.hid (Below.refl w.heap.size w)
  clear hA hB
  go_enter Tryz.func15, Tryz.ntmps15
  go_wp2_with fail
  go_loopg [5, 13] (L.length + 1) (fun g _ vi wr => ∃ j : Nat, vi = .int .i64 j ∧ j ≤ L.length ∧ L.length - j ≤ g ∧ Hid (Below w.heap.size w wr))
  case atStart => exact ⟨0, rfl, by omega, by omega, H0⟩
  case round =>
    obtain ⟨j, rfl, hj, hg, HW⟩ := hrel
    clear H0
    by_cases hjl : j < L.length
    case neg =>
      have hjc : ¬ ((j : Int) < (L.length : Int)) := by omega
      go_wp2_with fail
      go_ret
      exact ⟨rfl, HW.out⟩
    case pos =>
      have hjc : (j : Int) < (L.length : Int) := by omega
      obtain ⟨g1, o1, rfl, k1, e1⟩ := HA.out (by omega)
      obtain ⟨g2, o2, rfl, k2, e2⟩ := HB.out (by omega)
      have d1 := (HW.out.cell (p := ⟨g1, o1 + j, none⟩) k1).trans (e1 j hjl)
      have d2 := (HW.out.cell (p := ⟨g2, o2 + j, none⟩) k2).trans (e2 j hjl)
      clear e1 e2 k1 k2
      have HBe : Hid (∀ n, Below w.heap.size w (wr.drewN n)) := Lib.hid (fun n => bstep HW.out (bdr wr n))
      generalize L[j] = q at *
      have hqq : (q.toList == q.toList) = true := beq_self_eq_true _
      go_wp2_with fail
      go_big_quiet (fail)
      go_wp2_with fail
      go_roundg (gk - 1)
      case measure => omega
      case rel => exact ⟨j + 1, by go_num, by omega, by omega, Lib.hid (HBe.out _)⟩
theorem flags_len (m : Md) : (flagsM m).length ≤ 5 := by
  rw [flags_four]
  cases m.on with
  | false => simp
  | true =>
    simp only [if_true, List.length_cons]
    have := holds_len (four m)
    have h4 : (four m).length = 4 := rfl
    omega
set_option maxHeartbeats 8000000 in
set_option maxRecDepth 100000 in
theorem refFlags_calls (w : World) (m : Md) (a : Option Addr) (c : Nat) :
    Calls Tryz.prog 17 #[mV m a c] w fun e w' => ∃ v, e = .returned v ∧ RowS w w' v (flagsM m) := by
  obtain ⟨on, bc, oi, oo, nl, rd, ps⟩ := m
  unfold mV
  simp only
  cases on with
  | false =>
    go_enter Tryz.func17, Tryz.ntmps17
    go_wp2_with fail
    go_ret
    exact ⟨_, rfl, (rowS_one2 (w.alloc _) _ (by simp) (mk wOff)).over (bbox _)⟩
  | true =>
    have h2 : Hp w ((w.alloc (.cells #[.bool true, .bool bc, .bool oi, .bool oo, .bool nl, .int .i64 rd, .slice a ps.length c] 24)).alloc (.cells #[.string ⟨#[111, 110]⟩] 9)) [rowST (.slice (some ⟨w.heap.size + 1, 0, none⟩) 1 1) [mk wOn], cellsT w.heap.size [.bool true, .bool bc, .bool oi, .bool oo, .bool nl, .int .i64 rd, .slice a ps.length c]] := by
      have h1 := (Hp.nil (Below.refl w.heap.size w)).cellsNew [.bool true, .bool bc, .bool oi, .bool oo, .bool nl, .int .i64 rd, .slice a ps.length c] 24
      have hR := rowS_one2 (w.alloc (.cells #[.bool true, .bool bc, .bool oi, .bool oo, .bool nl, .int .i64 rd, .slice a ps.length c] 24)) (w.heap.size + 1) (by simp) (mk wOn)
      exact h1.rowAdd hR.bel hR.row (Nat.le_refl _)
    have H := Lib.hid h2
    clear h2
    go_enter Tryz.func17, Tryz.ntmps17
    go_upto_region 4 with fail
    generalize ((w.alloc (.cells #[.bool true, .bool bc, .bool oi, .bool oo, .bool nl, .int .i64 rd, .slice a ps.length c] 24)).alloc (.cells #[.string ⟨#[111, 110]⟩] 9)) = w2 at *
    generalize (Value.slice (some ⟨w.heap.size + 1, 0, none⟩) 1 1) = v2 at *
    generalize w.heap.size = b at *
    cases bc with
    | false =>
      cases oi with
      | false =>
        cases oo with
        | false =>
          cases nl with
          | false =>
            have x1 := (H.out.pull 1 rfl).cell 1 rfl
            have x2 := (H.out.pull 1 rfl).cell 2 rfl
            have x3 := (H.out.pull 1 rfl).cell 3 rfl
            have x4 := (H.out.pull 1 rfl).cell 4 rfl
            go_wp2_with fail
            go_ret
            exact ⟨_, rfl, rowS_of' H.out⟩
          | true =>
            have x1 := (H.out.pull 1 rfl).cell 1 rfl
            have x2 := (H.out.pull 1 rfl).cell 2 rfl
            have x3 := (H.out.pull 1 rfl).cell 3 rfl
            have x4 := (H.out.pull 1 rfl).cell 4 rfl
            go_wp2_with (at_builtin; refine pushH H.out (bbox _) rfl _ _ rfl rfl (mk wNoloop) _ rfl (by rw [World.cell?_alloc_new]; rfl) (by simp) ?_)
            intro v3 w3 hR
            have H := Lib.hid hR
            clear hR x1 x2 x3 x4
            have x1 := (H.out.pull 1 rfl).cell 1 rfl
            have x2 := (H.out.pull 1 rfl).cell 2 rfl
            have x3 := (H.out.pull 1 rfl).cell 3 rfl
            have x4 := (H.out.pull 1 rfl).cell 4 rfl
            go_wp2_with fail
            go_ret
            exact ⟨_, rfl, rowS_of' H.out⟩
        | true =>
          cases nl with
          | false =>
            have x1 := (H.out.pull 1 rfl).cell 1 rfl
            have x2 := (H.out.pull 1 rfl).cell 2 rfl
            have x3 := (H.out.pull 1 rfl).cell 3 rfl
            have x4 := (H.out.pull 1 rfl).cell 4 rfl
            go_wp2_with (at_builtin; refine pushH H.out (bbox _) rfl _ _ rfl rfl (mk wOptout) _ rfl (by rw [World.cell?_alloc_new]; rfl) (by simp) ?_)
            intro v3 w3 hR
            have H := Lib.hid hR
            clear hR x1 x2 x3 x4
            have x1 := (H.out.pull 1 rfl).cell 1 rfl
            have x2 := (H.out.pull 1 rfl).cell 2 rfl
            have x3 := (H.out.pull 1 rfl).cell 3 rfl
            have x4 := (H.out.pull 1 rfl).cell 4 rfl
            go_wp2_with fail
            go_ret
            exact ⟨_, rfl, rowS_of' H.out⟩
          | true =>
            have x1 := (H.out.pull 1 rfl).cell 1 rfl
            have x2 := (H.out.pull 1 rfl).cell 2 rfl
            have x3 := (H.out.pull 1 rfl).cell 3 rfl
            have x4 := (H.out.pull 1 rfl).cell 4 rfl
            go_wp2_with (at_builtin; refine pushH H.out (bbox _) rfl _ _ rfl rfl (mk wOptout) _ rfl (by rw [World.cell?_alloc_new]; rfl) (by simp) ?_)
            intro v3 w3 hR
            have H := Lib.hid hR
            clear hR x1 x2 x3 x4
            have x1 := (H.out.pull 1 rfl).cell 1 rfl
            have x2 := (H.out.pull 1 rfl).cell 2 rfl
            have x3 := (H.out.pull 1 rfl).cell 3 rfl
            have x4 := (H.out.pull 1 rfl).cell 4 rfl
            go_wp2_with (at_builtin; refine pushH H.out (bbox _) rfl _ _ rfl rfl (mk wNoloop) _ rfl (by rw [World.cell?_alloc_new]; rfl) (by simp) ?_)
            intro v4 w4 hR
            have H := Lib.hid hR
            clear hR x1 x2 x3 x4
            have x1 := (H.out.pull 1 rfl).cell 1 rfl
            have x2 := (H.out.pull 1 rfl).cell 2 rfl
            have x3 := (H.out.pull 1 rfl).cell 3 rfl
            have x4 := (H.out.pull 1 rfl).cell 4 rfl
            go_wp2_with fail
            go_ret
            exact ⟨_, rfl, rowS_of' H.out⟩
      | true =>
        cases oo with
        | false =>
          cases nl with
          | false =>
            have x1 := (H.out.pull 1 rfl).cell 1 rfl
            have x2 := (H.out.pull 1 rfl).cell 2 rfl
            have x3 := (H.out.pull 1 rfl).cell 3 rfl
            have x4 := (H.out.pull 1 rfl).cell 4 rfl
            go_wp2_with (at_builtin; refine pushH H.out (bbox _) rfl _ _ rfl rfl (mk wOptin) _ rfl (by rw [World.cell?_alloc_new]; rfl) (by simp) ?_)
            intro v3 w3 hR
            have H := Lib.hid hR
            clear hR x1 x2 x3 x4
            have x1 := (H.out.pull 1 rfl).cell 1 rfl
            have x2 := (H.out.pull 1 rfl).cell 2 rfl
            have x3 := (H.out.pull 1 rfl).cell 3 rfl
            have x4 := (H.out.pull 1 rfl).cell 4 rfl
            go_wp2_with fail
            go_ret
            exact ⟨_, rfl, rowS_of' H.out⟩
          | true =>
            have x1 := (H.out.pull 1 rfl).cell 1 rfl
            have x2 := (H.out.pull 1 rfl).cell 2 rfl
            have x3 := (H.out.pull 1 rfl).cell 3 rfl
            have x4 := (H.out.pull 1 rfl).cell 4 rfl
            go_wp2_with (at_builtin; refine pushH H.out (bbox _) rfl _ _ rfl rfl (mk wOptin) _ rfl (by rw [World.cell?_alloc_new]; rfl) (by simp) ?_)
            intro v3 w3 hR
            have H := Lib.hid hR
            clear hR x1 x2 x3 x4
            have x1 := (H.out.pull 1 rfl).cell 1 rfl
            have x2 := (H.out.pull 1 rfl).cell 2 rfl
            have x3 := (H.out.pull 1 rfl).cell 3 rfl
            have x4 := (H.out.pull 1 rfl).cell 4 rfl
            go_wp2_with (at_builtin; refine pushH H.out (bbox _) rfl _ _ rfl rfl (mk wNoloop) _ rfl (by rw [World.cell?_alloc_new]; rfl) (by simp) ?_)
            intro v4 w4 hR
            have H := Lib.hid hR
            clear hR x1 x2 x3 x4
            have x1 := (H.out.pull 1 rfl).cell 1 rfl
            have x2 := (H.out.pull 1 rfl).cell 2 rfl
            have x3 := (H.out.pull 1 rfl).cell 3 rfl
            have x4 := (H.out.pull 1 rfl).cell 4 rfl
            go_wp2_with fail
            go_ret
            exact ⟨_, rfl, rowS_of' H.out⟩
        | true =>
          cases nl with
          | false =>
            have x1 := (H.out.pull 1 rfl).cell 1 rfl
            have x2 := (H.out.pull 1 rfl).cell 2 rfl
            have x3 := (H.out.pull 1 rfl).cell 3 rfl
            have x4 := (H.out.pull 1 rfl).cell 4 rfl
            go_wp2_with (at_builtin; refine pushH H.out (bbox _) rfl _ _ rfl rfl (mk wOptin) _ rfl (by rw [World.cell?_alloc_new]; rfl) (by simp) ?_)
            intro v3 w3 hR
            have H := Lib.hid hR
            clear hR x1 x2 x3 x4
            have x1 := (H.out.pull 1 rfl).cell 1 rfl
            have x2 := (H.out.pull 1 rfl).cell 2 rfl
            have x3 := (H.out.pull 1 rfl).cell 3 rfl
            have x4 := (H.out.pull 1 rfl).cell 4 rfl
            go_wp2_with (at_builtin; refine pushH H.out (bbox _) rfl _ _ rfl rfl (mk wOptout) _ rfl (by rw [World.cell?_alloc_new]; rfl) (by simp) ?_)
            intro v4 w4 hR
            have H := Lib.hid hR
            clear hR x1 x2 x3 x4
            have x1 := (H.out.pull 1 rfl).cell 1 rfl
            have x2 := (H.out.pull 1 rfl).cell 2 rfl
            have x3 := (H.out.pull 1 rfl).cell 3 rfl
            have x4 := (H.out.pull 1 rfl).cell 4 rfl
            go_wp2_with fail
            go_ret
            exact ⟨_, rfl, rowS_of' H.out⟩
          | true =>
            have x1 := (H.out.pull 1 rfl).cell 1 rfl
            have x2 := (H.out.pull 1 rfl).cell 2 rfl
            have x3 := (H.out.pull 1 rfl).cell 3 rfl
            have x4 := (H.out.pull 1 rfl).cell 4 rfl
            go_wp2_with (at_builtin; refine pushH H.out (bbox _) rfl _ _ rfl rfl (mk wOptin) _ rfl (by rw [World.cell?_alloc_new]; rfl) (by simp) ?_)
            intro v3 w3 hR
            have H := Lib.hid hR
            clear hR x1 x2 x3 x4
            have x1 := (H.out.pull 1 rfl).cell 1 rfl
            have x2 := (H.out.pull 1 rfl).cell 2 rfl
            have x3 := (H.out.pull 1 rfl).cell 3 rfl
            have x4 := (H.out.pull 1 rfl).cell 4 rfl
            go_wp2_with (at_builtin; refine pushH H.out (bbox _) rfl _ _ rfl rfl (mk wOptout) _ rfl (by rw [World.cell?_alloc_new]; rfl) (by simp) ?_)
            intro v4 w4 hR
            have H := Lib.hid hR
            clear hR x1 x2 x3 x4
            have x1 := (H.out.pull 1 rfl).cell 1 rfl
            have x2 := (H.out.pull 1 rfl).cell 2 rfl
            have x3 := (H.out.pull 1 rfl).cell 3 rfl
            have x4 := (H.out.pull 1 rfl).cell 4 rfl
            go_wp2_with (at_builtin; refine pushH H.out (bbox _) rfl _ _ rfl rfl (mk wNoloop) _ rfl (by rw [World.cell?_alloc_new]; rfl) (by simp) ?_)
            intro v5 w5 hR
            have H := Lib.hid hR
            clear hR x1 x2 x3 x4
            have x1 := (H.out.pull 1 rfl).cell 1 rfl
            have x2 := (H.out.pull 1 rfl).cell 2 rfl
            have x3 := (H.out.pull 1 rfl).cell 3 rfl
            have x4 := (H.out.pull 1 rfl).cell 4 rfl
            go_wp2_with fail
            go_ret
            exact ⟨_, rfl, rowS_of' H.out⟩
    | true =>
      cases oi with
      | false =>
        cases oo with
        | false =>
          cases nl with
          | false =>
            have x1 := (H.out.pull 1 rfl).cell 1 rfl
            have x2 := (H.out.pull 1 rfl).cell 2 rfl
            have x3 := (H.out.pull 1 rfl).cell 3 rfl
            have x4 := (H.out.pull 1 rfl).cell 4 rfl
            go_wp2_with (at_builtin; refine pushH H.out (bbox _) rfl _ _ rfl rfl (mk wBcast) _ rfl (by rw [World.cell?_alloc_new]; rfl) (by simp) ?_)
            intro v3 w3 hR
            have H := Lib.hid hR
            clear hR x1 x2 x3 x4
            have x1 := (H.out.pull 1 rfl).cell 1 rfl
            have x2 := (H.out.pull 1 rfl).cell 2 rfl
            have x3 := (H.out.pull 1 rfl).cell 3 rfl
            have x4 := (H.out.pull 1 rfl).cell 4 rfl
            go_wp2_with fail
            go_ret
            exact ⟨_, rfl, rowS_of' H.out⟩
          | true =>
            have x1 := (H.out.pull 1 rfl).cell 1 rfl
            have x2 := (H.out.pull 1 rfl).cell 2 rfl
            have x3 := (H.out.pull 1 rfl).cell 3 rfl
            have x4 := (H.out.pull 1 rfl).cell 4 rfl
            go_wp2_with (at_builtin; refine pushH H.out (bbox _) rfl _ _ rfl rfl (mk wBcast) _ rfl (by rw [World.cell?_alloc_new]; rfl) (by simp) ?_)
            intro v3 w3 hR
            have H := Lib.hid hR
            clear hR x1 x2 x3 x4
            have x1 := (H.out.pull 1 rfl).cell 1 rfl
            have x2 := (H.out.pull 1 rfl).cell 2 rfl
            have x3 := (H.out.pull 1 rfl).cell 3 rfl
            have x4 := (H.out.pull 1 rfl).cell 4 rfl
            go_wp2_with (at_builtin; refine pushH H.out (bbox _) rfl _ _ rfl rfl (mk wNoloop) _ rfl (by rw [World.cell?_alloc_new]; rfl) (by simp) ?_)
            intro v4 w4 hR
            have H := Lib.hid hR
            clear hR x1 x2 x3 x4
            have x1 := (H.out.pull 1 rfl).cell 1 rfl
            have x2 := (H.out.pull 1 rfl).cell 2 rfl
            have x3 := (H.out.pull 1 rfl).cell 3 rfl
            have x4 := (H.out.pull 1 rfl).cell 4 rfl
            go_wp2_with fail
            go_ret
            exact ⟨_, rfl, rowS_of' H.out⟩
        | true =>
          cases nl with
          | false =>
            have x1 := (H.out.pull 1 rfl).cell 1 rfl
            have x2 := (H.out.pull 1 rfl).cell 2 rfl
            have x3 := (H.out.pull 1 rfl).cell 3 rfl
            have x4 := (H.out.pull 1 rfl).cell 4 rfl
            go_wp2_with (at_builtin; refine pushH H.out (bbox _) rfl _ _ rfl rfl (mk wBcast) _ rfl (by rw [World.cell?_alloc_new]; rfl) (by simp) ?_)
            intro v3 w3 hR
            have H := Lib.hid hR
            clear hR x1 x2 x3 x4
            have x1 := (H.out.pull 1 rfl).cell 1 rfl
            have x2 := (H.out.pull 1 rfl).cell 2 rfl
            have x3 := (H.out.pull 1 rfl).cell 3 rfl
            have x4 := (H.out.pull 1 rfl).cell 4 rfl
            go_wp2_with (at_builtin; refine pushH H.out (bbox _) rfl _ _ rfl rfl (mk wOptout) _ rfl (by rw [World.cell?_alloc_new]; rfl) (by simp) ?_)
            intro v4 w4 hR
            have H := Lib.hid hR
            clear hR x1 x2 x3 x4
            have x1 := (H.out.pull 1 rfl).cell 1 rfl
            have x2 := (H.out.pull 1 rfl).cell 2 rfl
            have x3 := (H.out.pull 1 rfl).cell 3 rfl
            have x4 := (H.out.pull 1 rfl).cell 4 rfl
            go_wp2_with fail
            go_ret
            exact ⟨_, rfl, rowS_of' H.out⟩
          | true =>
            have x1 := (H.out.pull 1 rfl).cell 1 rfl
            have x2 := (H.out.pull 1 rfl).cell 2 rfl
            have x3 := (H.out.pull 1 rfl).cell 3 rfl
            have x4 := (H.out.pull 1 rfl).cell 4 rfl
            go_wp2_with (at_builtin; refine pushH H.out (bbox _) rfl _ _ rfl rfl (mk wBcast) _ rfl (by rw [World.cell?_alloc_new]; rfl) (by simp) ?_)
            intro v3 w3 hR
            have H := Lib.hid hR
            clear hR x1 x2 x3 x4
            have x1 := (H.out.pull 1 rfl).cell 1 rfl
            have x2 := (H.out.pull 1 rfl).cell 2 rfl
            have x3 := (H.out.pull 1 rfl).cell 3 rfl
            have x4 := (H.out.pull 1 rfl).cell 4 rfl
            go_wp2_with (at_builtin; refine pushH H.out (bbox _) rfl _ _ rfl rfl (mk wOptout) _ rfl (by rw [World.cell?_alloc_new]; rfl) (by simp) ?_)
            intro v4 w4 hR
            have H := Lib.hid hR
            clear hR x1 x2 x3 x4
            have x1 := (H.out.pull 1 rfl).cell 1 rfl
            have x2 := (H.out.pull 1 rfl).cell 2 rfl
            have x3 := (H.out.pull 1 rfl).cell 3 rfl
            have x4 := (H.out.pull 1 rfl).cell 4 rfl
            go_wp2_with (at_builtin; refine pushH H.out (bbox _) rfl _ _ rfl rfl (mk wNoloop) _ rfl (by rw [World.cell?_alloc_new]; rfl) (by simp) ?_)
            intro v5 w5 hR
            have H := Lib.hid hR
            clear hR x1 x2 x3 x4
            have x1 := (H.out.pull 1 rfl).cell 1 rfl
            have x2 := (H.out.pull 1 rfl).cell 2 rfl
            have x3 := (H.out.pull 1 rfl).cell 3 rfl
            have x4 := (H.out.pull 1 rfl).cell 4 rfl
            go_wp2_with fail
            go_ret
            exact ⟨_, rfl, rowS_of' H.out⟩
      | true =>
        cases oo with
        | false =>
          cases nl with
          | false =>
            have x1 := (H.out.pull 1 rfl).cell 1 rfl
            have x2 := (H.out.pull 1 rfl).cell 2 rfl
            have x3 := (H.out.pull 1 rfl).cell 3 rfl
            have x4 := (H.out.pull 1 rfl).cell 4 rfl
            go_wp2_with (at_builtin; refine pushH H.out (bbox _) rfl _ _ rfl rfl (mk wBcast) _ rfl (by rw [World.cell?_alloc_new]; rfl) (by simp) ?_)
            intro v3 w3 hR
            have H := Lib.hid hR
            clear hR x1 x2 x3 x4
            have x1 := (H.out.pull 1 rfl).cell 1 rfl
            have x2 := (H.out.pull 1 rfl).cell 2 rfl
            have x3 := (H.out.pull 1 rfl).cell 3 rfl
            have x4 := (H.out.pull 1 rfl).cell 4 rfl
            go_wp2_with (at_builtin; refine pushH H.out (bbox _) rfl _ _ rfl rfl (mk wOptin) _ rfl (by rw [World.cell?_alloc_new]; rfl) (by simp) ?_)
            intro v4 w4 hR
            have H := Lib.hid hR
            clear hR x1 x2 x3 x4
            have x1 := (H.out.pull 1 rfl).cell 1 rfl
            have x2 := (H.out.pull 1 rfl).cell 2 rfl
            have x3 := (H.out.pull 1 rfl).cell 3 rfl
            have x4 := (H.out.pull 1 rfl).cell 4 rfl
            go_wp2_with fail
            go_ret
            exact ⟨_, rfl, rowS_of' H.out⟩
          | true =>
            have x1 := (H.out.pull 1 rfl).cell 1 rfl
            have x2 := (H.out.pull 1 rfl).cell 2 rfl
            have x3 := (H.out.pull 1 rfl).cell 3 rfl
            have x4 := (H.out.pull 1 rfl).cell 4 rfl
            go_wp2_with (at_builtin; refine pushH H.out (bbox _) rfl _ _ rfl rfl (mk wBcast) _ rfl (by rw [World.cell?_alloc_new]; rfl) (by simp) ?_)
            intro v3 w3 hR
            have H := Lib.hid hR
            clear hR x1 x2 x3 x4
            have x1 := (H.out.pull 1 rfl).cell 1 rfl
            have x2 := (H.out.pull 1 rfl).cell 2 rfl
            have x3 := (H.out.pull 1 rfl).cell 3 rfl
            have x4 := (H.out.pull 1 rfl).cell 4 rfl
            go_wp2_with (at_builtin; refine pushH H.out (bbox _) rfl _ _ rfl rfl (mk wOptin) _ rfl (by rw [World.cell?_alloc_new]; rfl) (by simp) ?_)
            intro v4 w4 hR
            have H := Lib.hid hR
            clear hR x1 x2 x3 x4
            have x1 := (H.out.pull 1 rfl).cell 1 rfl
            have x2 := (H.out.pull 1 rfl).cell 2 rfl
            have x3 := (H.out.pull 1 rfl).cell 3 rfl
            have x4 := (H.out.pull 1 rfl).cell 4 rfl
            go_wp2_with (at_builtin; refine pushH H.out (bbox _) rfl _ _ rfl rfl (mk wNoloop) _ rfl (by rw [World.cell?_alloc_new]; rfl) (by simp) ?_)
            intro v5 w5 hR
            have H := Lib.hid hR
            clear hR x1 x2 x3 x4
            have x1 := (H.out.pull 1 rfl).cell 1 rfl
            have x2 := (H.out.pull 1 rfl).cell 2 rfl
            have x3 := (H.out.pull 1 rfl).cell 3 rfl
            have x4 := (H.out.pull 1 rfl).cell 4 rfl
            go_wp2_with fail
            go_ret
            exact ⟨_, rfl, rowS_of' H.out⟩
        | true =>
          cases nl with
          | false =>
            have x1 := (H.out.pull 1 rfl).cell 1 rfl
            have x2 := (H.out.pull 1 rfl).cell 2 rfl
            have x3 := (H.out.pull 1 rfl).cell 3 rfl
            have x4 := (H.out.pull 1 rfl).cell 4 rfl
            go_wp2_with (at_builtin; refine pushH H.out (bbox _) rfl _ _ rfl rfl (mk wBcast) _ rfl (by rw [World.cell?_alloc_new]; rfl) (by simp) ?_)
            intro v3 w3 hR
            have H := Lib.hid hR
            clear hR x1 x2 x3 x4
            have x1 := (H.out.pull 1 rfl).cell 1 rfl
            have x2 := (H.out.pull 1 rfl).cell 2 rfl
            have x3 := (H.out.pull 1 rfl).cell 3 rfl
            have x4 := (H.out.pull 1 rfl).cell 4 rfl
            go_wp2_with (at_builtin; refine pushH H.out (bbox _) rfl _ _ rfl rfl (mk wOptin) _ rfl (by rw [World.cell?_alloc_new]; rfl) (by simp) ?_)
            intro v4 w4 hR
            have H := Lib.hid hR
            clear hR x1 x2 x3 x4
            have x1 := (H.out.pull 1 rfl).cell 1 rfl
            have x2 := (H.out.pull 1 rfl).cell 2 rfl
            have x3 := (H.out.pull 1 rfl).cell 3 rfl
            have x4 := (H.out.pull 1 rfl).cell 4 rfl
            go_wp2_with (at_builtin; refine pushH H.out (bbox _) rfl _ _ rfl rfl (mk wOptout) _ rfl (by rw [World.cell?_alloc_new]; rfl) (by simp) ?_)
            intro v5 w5 hR
            have H := Lib.hid hR
            clear hR x1 x2 x3 x4
            have x1 := (H.out.pull 1 rfl).cell 1 rfl
            have x2 := (H.out.pull 1 rfl).cell 2 rfl
            have x3 := (H.out.pull 1 rfl).cell 3 rfl
            have x4 := (H.out.pull 1 rfl).cell 4 rfl
            go_wp2_with fail
            go_ret
            exact ⟨_, rfl, rowS_of' H.out⟩
          | true =>
            have x1 := (H.out.pull 1 rfl).cell 1 rfl
            have x2 := (H.out.pull 1 rfl).cell 2 rfl
            have x3 := (H.out.pull 1 rfl).cell 3 rfl
            have x4 := (H.out.pull 1 rfl).cell 4 rfl
            go_wp2_with (at_builtin; refine pushH H.out (bbox _) rfl _ _ rfl rfl (mk wBcast) _ rfl (by rw [World.cell?_alloc_new]; rfl) (by simp) ?_)
            intro v3 w3 hR
            have H := Lib.hid hR
            clear hR x1 x2 x3 x4
            have x1 := (H.out.pull 1 rfl).cell 1 rfl
            have x2 := (H.out.pull 1 rfl).cell 2 rfl
            have x3 := (H.out.pull 1 rfl).cell 3 rfl
            have x4 := (H.out.pull 1 rfl).cell 4 rfl
            go_wp2_with (at_builtin; refine pushH H.out (bbox _) rfl _ _ rfl rfl (mk wOptin) _ rfl (by rw [World.cell?_alloc_new]; rfl) (by simp) ?_)
            intro v4 w4 hR
            have H := Lib.hid hR
            clear hR x1 x2 x3 x4
            have x1 := (H.out.pull 1 rfl).cell 1 rfl
            have x2 := (H.out.pull 1 rfl).cell 2 rfl
            have x3 := (H.out.pull 1 rfl).cell 3 rfl
            have x4 := (H.out.pull 1 rfl).cell 4 rfl
            go_wp2_with (at_builtin; refine pushH H.out (bbox _) rfl _ _ rfl rfl (mk wOptout) _ rfl (by rw [World.cell?_alloc_new]; rfl) (by simp) ?_)
            intro v5 w5 hR
            have H := Lib.hid hR
            clear hR x1 x2 x3 x4
            have x1 := (H.out.pull 1 rfl).cell 1 rfl
            have x2 := (H.out.pull 1 rfl).cell 2 rfl
            have x3 := (H.out.pull 1 rfl).cell 3 rfl
            have x4 := (H.out.pull 1 rfl).cell 4 rfl
            go_wp2_with (at_builtin; refine pushH H.out (bbox _) rfl _ _ rfl rfl (mk wNoloop) _ rfl (by rw [World.cell?_alloc_new]; rfl) (by simp) ?_)
            intro v6 w6 hR
            have H := Lib.hid hR
            clear hR x1 x2 x3 x4
            have x1 := (H.out.pull 1 rfl).cell 1 rfl
            have x2 := (H.out.pull 1 rfl).cell 2 rfl
            have x3 := (H.out.pull 1 rfl).cell 3 rfl
            have x4 := (H.out.pull 1 rfl).cell 4 rfl
            go_wp2_with fail
            go_ret
            exact ⟨_, rfl, rowS_of' H.out⟩
end Go.Proofs.YtjpbpdjomfkkeaaGreatDoor.Ma
