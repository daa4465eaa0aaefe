/- slices.Grow and Concat at texts. No condition but bounds. -/
import Derived.Test.YtjpbpdjomfkkeaaGreatDoorMb1
import Derived.Lib.AppendZeros
namespace Go.Proofs.YtjpbpdjomfkkeaaGreatDoor.Ma
set_option linter.unusedVariables false
set_option linter.unusedSimpArgs false
open Go.ChangeShapes Go.WideShapes Go.ChangeAt Go.RowKit
open Go.Proofs.YtjpbpdjomfkkeaaGreatDoor.Sp (bstep bbox)
theorem zeros_ok (n c : Nat) (h : n ≤ c) : ((Builtin.zeroCells (Value.string ⟨#[]⟩).cells n) ++ (Builtin.zeroCells (Value.string ⟨#[]⟩).cells (c - n))).size = c * 1 := by
  rw [Array.size_append, size_zeroCells, size_zeroCells]
  have : (Value.string ⟨#[]⟩).cells.size = 1 := rfl
  rw [this]
  omega
set_option maxHeartbeats 4000000 in
set_option maxRecDepth 100000 in
theorem grow_calls (w : World) (n : Nat) (hn : n ≤ 1000000) :
    Calls Tryz.prog 35 #[.slice none 0 0, .int .i64 n] w fun e w' => ∃ v, e = .returned v ∧ RowS w w' v [] := by
  obtain ⟨i0, hi, hz0, hz1, hz2⟩ := info_parts iStr
  go_enter Tryz.func35, Tryz.ntmps35
  by_cases h0 : n = 0
  · subst h0
    go_wp2_with fail
    go_ret
    exact ⟨_, rfl, rowS_nil (Below.refl _ _)⟩
  · have hpos : 0 < n := by omega
    have hposc : (0 : Int) < (n : Int) := by omega
    have happ := fun ty => Lib.run_append_nil_zeros (P := Tryz.prog) w 22 3 ty 9 i0 (.string ⟨#[]⟩) .i64 .i64 Tryz.underlying22 Tryz.underlying3 hi hz0 n hpos (by omega) (by omega) (by rw [hz2]; omega)
    have HC : Hid (n ≤ grownCap w n 0 9 ∧ grownCap w n 0 9 ≤ maxLen) := Lib.hid ⟨grownCap_ge _ _ _ _, grownCap_le_maxLen _ _ _ _ (by unfold maxLen; omega)⟩
    clear hi hz0 hz1 hz2
    generalize grownCap w n 0 9 = c at *
    have hc1 := HC.out.1
    have hc2 : c ≤ 9223372036854775807 := by have := HC.out.2; unfold maxLen at this; omega
    go_wp2_with (at_builtin; refine Lib.wpList_append_run _ rfl _ _ _ _ rfl _ _ rfl rfl _ _ (happ _) ?_)
    go_ret
    refine ⟨_, rfl, ⟨by simp [cellsS], .inr ⟨w.heap.size, c, _, rfl, Nat.le_refl _, heap_alloc_new w.drew _, Nat.zero_le _, HC.out.2, zeros_ok n c hc1, by simp [cellsS]⟩⟩, ?_⟩
    exact (Below.refl _ _).drew.alloc (Nat.le_refl _) _
/-- A part: where it lies, its capacity, its fields. -/
abbrev Pt : Type := Option Addr × Nat × List BA
def sumP (p : List Pt) : Nat := (p.map fun q => q.2.2.length).sum
def allP (p : List Pt) : List BA := p.flatMap fun q => q.2.2
theorem sumP_take {p : List Pt} {j : Nat} (hj : j < p.length) : sumP (p.take (j + 1)) = sumP (p.take j) + p[j].2.2.length := by
  unfold sumP
  rw [← List.take_append_getElem hj, List.map_append, List.sum_append]
  simp
theorem allP_take {p : List Pt} {j : Nat} (hj : j < p.length) : allP (p.take (j + 1)) = allP (p.take j) ++ p[j].2.2 := by
  unfold allP
  rw [← List.take_append_getElem hj, List.flatMap_append]
  simp
theorem allP_len (p : List Pt) : (allP p).length = sumP p := by
  unfold allP sumP
  rw [List.length_flatMap]
theorem sumP_le (p : List Pt) (j : Nat) : sumP (p.take j) ≤ sumP p := by
  have h : sumP p = sumP (p.take j) + sumP (p.drop j) := by
    conv => lhs; rw [← List.take_append_drop j p]
    unfold sumP
    rw [List.map_append, List.sum_append]
  omega
/-- The parts p lie in block B. -/
def InP (w : World) (B : Nat) (p : List Pt) : Prop := B < w.heap.size ∧ ∀ i (h : i < p.length), w.cell? ⟨B, i, none⟩ = some (.slice p[i].1 p[i].2.2.length p[i].2.1) ∧ (p[i].1 = none → p[i].2.1 = 0) ∧ InS w p[i].1 p[i].2.2
theorem InP.below {w w' : World} {B : Nat} {p : List Pt} (h : InP w B p) (hb : Below w.heap.size w w') : InP w' B p :=
  ⟨Nat.lt_of_lt_of_le h.1 hb.size, fun i hi => ⟨(hb.cell (p := ⟨B, i, none⟩) h.1).trans (h.2 i hi).1, (h.2 i hi).2.1, (h.2 i hi).2.2.bel hb⟩⟩
set_option maxHeartbeats 4000000 in
set_option maxRecDepth 100000 in
theorem concat_calls (w : World) (B c n : Nat) (p : List Pt) (hn : n = p.length) (hI : InP w B p) (hs : sumP p ≤ 1000000) (hp : p.length ≤ 1000) :
    Calls Tryz.prog 28 #[.slice (some ⟨B, 0, none⟩) n c] w fun e w' => ∃ v, e = .returned v ∧ RowS w w' v (allP p) := by
  subst hn
  have HI := Lib.hid hI
  have HS := Lib.hid hs
  clear hI hs
  go_enter Tryz.func28, Tryz.ntmps28
  go_wp2_with fail
  go_loopg [3, 5, 11] (p.length + 1) (fun g sv _ vi wr => ∃ j : Nat, vi = .int .i64 j ∧ j ≤ p.length ∧ p.length - j ≤ g ∧ sv = .int .i64 (sumP (p.take j) : Nat) ∧ wr = w)
  case atStart => exact ⟨0, rfl, by omega, by omega, rfl, rfl⟩
  case round =>
    obtain ⟨j, rfl, hj, hg, rfl, rfl⟩ := hrel
    by_cases hjl : j < p.length
    case pos =>
      have hjc : (j : Int) < (p.length : Int) := by omega
      obtain ⟨c0, -⟩ := HI.out.2 j hjl
      have HT := Lib.hid (sumP_take hjl)
      have HL := Lib.hid (sumP_le p j)
      have HL2 := Lib.hid (sumP_le p (j + 1))
      have h1 : sumP (p.take j) + p[j].2.2.length ≤ 1000000 := by have := HT.out; have := HL2.out; have := HS.out; omega
      generalize sumP (p.take j) = s0 at *
      generalize p[j] = q at *
      obtain ⟨qa, qc, ql⟩ := q
      have c0 : wr.cell? ⟨B, j, none⟩ = some (.slice qa ql.length qc) := c0
      have h1 : s0 + ql.length ≤ 1000000 := h1
      have HT : Hid (sumP (p.take (j + 1)) = s0 + ql.length) := HT
      go_wp2_with fail
      go_roundg (gk - 1)
      case measure => omega
      case rel => exact ⟨j + 1, by go_num, by omega, by omega, by rw [HT.out]; go_num, rfl⟩
    case neg =>
      have hjc : ¬ ((j : Int) < (p.length : Int)) := by omega
      obtain rfl : j = p.length := by omega
      rw [List.take_length]
      have hs1 := HS.out
      have HAL := Lib.hid (allP_len p)
      generalize sumP p = s0 at *
      go_wp2_with fail
      refine (grow_calls _ s0 (by omega)).mono ?_
      rintro e w2 ⟨v2, rfl, hR2⟩
      have HR2 := Lib.hid hR2
      clear hR2
      go_wp2_with fail
      go_loopg [6, 8, 27] (p.length + 1) (fun g v _ vi w3 => ∃ j : Nat, vi = .int .i64 j ∧ j ≤ p.length ∧ p.length - j ≤ g ∧ Hid (RowS wr w3 v (allP (p.take j))))
      case atStart => exact ⟨0, rfl, by omega, by omega, HR2⟩
      case round =>
        obtain ⟨j, rfl, hj, hg, HR⟩ := hrel
        by_cases hjl : j < p.length
        case pos =>
          have hjc : (j : Int) < (p.length : Int) := by omega
          obtain ⟨c0, hz, hF⟩ := (HI.out.below HR.out.bel).2 j hjl
          have HZ := Lib.hid hz
          have HF := Lib.hid hF
          have HT := Lib.hid (allP_take hjl)
          have HLE : Hid ((allP (p.take j)).length ≤ 1000000 ∧ p[j].2.2.length ≤ 1000000) := Lib.hid (by
            have h1 := allP_len (p.take j)
            have h2 := sumP_le p j
            have h3 := sumP_take hjl
            have h4 := sumP_le p (j + 1)
            have h5 := allP_len p
            have h6 := HAL.out
            omega)
          clear hF hz
          generalize allP (p.take j) = s0 at *
          generalize p[j] = q at *
          obtain ⟨qa, qc, ql⟩ := q
          have c0 := c0
          have HF : Hid (InS _ qa ql) := HF
          have HZ : Hid (qa = none → qc = 0) := HZ
          have HT : Hid (allP (p.take (j + 1)) = s0 ++ ql) := HT
          have hle1 := HLE.out.1
          have hle2 : ql.length ≤ 1000000 := HLE.out.2
          go_wp2_with (at_builtin; refine str_push HR.out rfl _ _ rfl rfl ql qc rfl rfl HF.out (by omega) (by omega) (fun e => ⟨?_, HZ.out e⟩) ?_)
          · cases ql with
            | nil => rfl
            | cons x l => obtain ⟨b, o, h, -⟩ := HF.out (by simp); rw [e] at h; cases h
          intro v4 w4 hR4
          have HR4 := Lib.hid hR4
          rw [← HT.out] at HR4
          clear hR4
          go_wp2_with fail
          go_roundg (gk - 1)
          case measure => omega
          case rel => exact ⟨j + 1, by go_num, by omega, by omega, HR4⟩
        case neg =>
          have hjc : ¬ ((j : Int) < (p.length : Int)) := by omega
          obtain rfl : j = p.length := by omega
          rw [List.take_length] at HR
          go_wp2_with fail
          go_ret
          exact ⟨_, rfl, HR.out⟩
end Go.Proofs.YtjpbpdjomfkkeaaGreatDoor.Ma
