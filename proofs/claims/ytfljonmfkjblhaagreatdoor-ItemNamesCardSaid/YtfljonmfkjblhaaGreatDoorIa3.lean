/- Parts of fields behind parts: slices.Concat at fields; item.hashItem, item.Copy, item.textItem. No condition but bounds. -/
import Derived.Test.YtfljonmfkjblhaaGreatDoorIa2
namespace Go.Proofs.YtfljonmfkjblhaaGreatDoor.Ia
open Go.ChangeShapes Go.WideShapes Go.ChangeAt Go.RowKit
/-- A part: where it lies, its capacity, its fields. -/
abbrev Pt : Type := Option Addr × Nat × List Fd
def sumP (p : List Pt) : Nat := (p.map fun q => q.2.2.length).sum
def allP (p : List Pt) : List Fd := p.flatMap fun q => q.2.2
theorem sumP_take {p : List Pt} {j : Nat} (hj : j < p.length) : sumP (p.take (j + 1)) = sumP (p.take j) + p[j].2.2.length := by
  unfold sumP
  rw [← List.take_append_getElem hj, List.map_append, List.sum_append]
  simp
theorem allP_take {p : List Pt} {j : Nat} (hj : j < p.length) : allP (p.take (j + 1)) = allP (p.take j) ++ p[j].2.2 := by
  unfold allP
  rw [← List.take_append_getElem hj, List.flatMap_append]
  simp
theorem allP_len (p : List Pt) : (allP p).length = sumP p := by
  unfold allP sumP
  rw [List.length_flatMap]
theorem sumP_le (p : List Pt) (j : Nat) : sumP (p.take j) ≤ sumP p := by
  have h : sumP p = sumP (p.take j) + sumP (p.drop j) := by
    conv => lhs; rw [← List.take_append_drop j p]
    unfold sumP
    rw [List.map_append, List.sum_append]
  omega
/-- The parts p lie in block B. -/
def InP (w : World) (B : Nat) (p : List Pt) : Prop := B < w.heap.size ∧ ∀ i (h : i < p.length), w.cell? ⟨B, i, none⟩ = some (.slice p[i].1 p[i].2.2.length p[i].2.1) ∧ InF w p[i].1 p[i].2.2
theorem InP.below {w w' : World} {B : Nat} {p : List Pt} (h : InP w B p) (hb : Below w.heap.size w w') : InP w' B p :=
  ⟨Nat.lt_of_lt_of_le h.1 hb.size, fun i hi => ⟨(hb.cell (p := ⟨B, i, none⟩) h.1).trans (h.2 i hi).1, (h.2 i hi).2.below (Nat.le_refl _) hb⟩⟩
set_option maxHeartbeats 4000000 in
set_option maxRecDepth 100000 in
theorem concat_calls (w : World) (B c n : Nat) (p : List Pt) (hn : n = p.length) (hI : InP w B p) (hs : sumP p ≤ 1000000) (hp : p.length ≤ 1000) :
    Calls Tryz.prog 24 #[.slice (some ⟨B, 0, none⟩) n c] w fun e w' => ∃ v, e = .returned v ∧ RowF w w' v (allP p) := by
  subst hn
  have HI := Lib.hid hI
  have HS := Lib.hid hs
  clear hI hs
  go_enter Tryz.func24, Tryz.ntmps24
  go_wp2_with fail
  go_loopg [3, 5, 11] (p.length + 1) (fun g sv _ vi wr => ∃ j : Nat, vi = .int .i64 j ∧ j ≤ p.length ∧ p.length - j ≤ g ∧ sv = .int .i64 (sumP (p.take j) : Nat) ∧ wr = w)
  case atStart => exact ⟨0, rfl, by omega, by omega, rfl, rfl⟩
  case round =>
    obtain ⟨j, rfl, hj, hg, rfl, rfl⟩ := hrel
    by_cases hjl : j < p.length
    case pos =>
      have hjc : (j : Int) < (p.length : Int) := by omega
      obtain ⟨c0, -⟩ := HI.out.2 j hjl
      have HT := Lib.hid (sumP_take hjl)
      have HL := Lib.hid (sumP_le p j)
      have HL2 := Lib.hid (sumP_le p (j + 1))
      have h1 : sumP (p.take j) + p[j].2.2.length ≤ 1000000 := by have := HT.out; have := HL2.out; have := HS.out; omega
      generalize sumP (p.take j) = s0 at *
      generalize p[j] = q at *
      obtain ⟨qa, qc, ql⟩ := q
      have c0 : wr.cell? ⟨B, j, none⟩ = some (.slice qa ql.length qc) := c0
      have h1 : s0 + ql.length ≤ 1000000 := h1
      have HT : Hid (sumP (p.take (j + 1)) = s0 + ql.length) := HT
      go_wp2_with fail
      go_roundg (gk - 1)
      case measure => omega
      case rel => exact ⟨j + 1, by go_num, by omega, by omega, by rw [HT.out]; go_num, rfl⟩
    case neg =>
      have hjc : ¬ ((j : Int) < (p.length : Int)) := by omega
      obtain rfl : j = p.length := by omega
      rw [List.take_length]
      have hs1 := HS.out
      have HAL := Lib.hid (allP_len p)
      generalize sumP p = s0 at *
      go_wp2_with fail
      refine (grow_calls _ s0 (by omega)).mono ?_
      rintro e w2 ⟨v2, rfl, hR2⟩
      have HR2 := Lib.hid hR2
      clear hR2
      go_wp2_with fail
      go_loopg [6, 8, 27] (p.length + 1) (fun g v _ vi w3 => ∃ j : Nat, vi = .int .i64 j ∧ j ≤ p.length ∧ p.length - j ≤ g ∧ Hid (RowF wr w3 v (allP (p.take j))))
      case atStart => exact ⟨0, rfl, by omega, by omega, HR2⟩
      case round =>
        obtain ⟨j, rfl, hj, hg, HR⟩ := hrel
        by_cases hjl : j < p.length
        case pos =>
          have hjc : (j : Int) < (p.length : Int) := by omega
          obtain ⟨c0, hF⟩ := (HI.out.below HR.out.bel).2 j hjl
          have HF := Lib.hid hF
          have HT := Lib.hid (allP_take hjl)
          have HLE : Hid ((allP (p.take j)).length ≤ 1000000 ∧ p[j].2.2.length ≤ 1000000) := Lib.hid (by
            have h1 := allP_len (p.take j)
            have h2 := sumP_le p j
            have h3 := sumP_take hjl
            have h4 := sumP_le p (j + 1)
            have h5 := allP_len p
            have h6 := HAL.out
            omega)
          clear hF
          generalize allP (p.take j) = s0 at *
          generalize p[j] = q at *
          obtain ⟨qa, qc, ql⟩ := q
          have c0 := c0
          have HF : Hid (InF _ qa ql) := HF
          have HT : Hid (allP (p.take (j + 1)) = s0 ++ ql) := HT
          have hle1 := HLE.out.1
          have hle2 : ql.length ≤ 1000000 := HLE.out.2
          go_wp2_with (at_builtin; refine fields_push HR.out rfl _ _ rfl rfl ql qc rfl rfl HF.out (by omega) (by omega) ?_)
          intro v4 w4 hR4 _
          have HR4 := Lib.hid hR4
          rw [← HT.out] at HR4
          clear hR4
          go_wp2_with fail
          go_roundg (gk - 1)
          case measure => omega
          case rel => exact ⟨j + 1, by go_num, by omega, by omega, HR4⟩
        case neg =>
          have hjc : ¬ ((j : Int) < (p.length : Int)) := by omega
          obtain rfl : j = p.length := by omega
          rw [List.take_length] at HR
          go_wp2_with fail
          go_ret
          exact ⟨_, rfl, HR.out⟩
end Go.Proofs.YtfljonmfkjblhaaGreatDoor.Ia
