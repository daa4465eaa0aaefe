/- The walk of the law LinesNames: true. Conditions: what start-up lays ('PCtx'); the variable MaxLen holds some int. -/
import Derived.Test.YtpiaidhpemjfoaaDoorLo2
namespace Go.Proofs.YtpiaidhpemjfoaaDoor.Ln
open Go.ChangeShapes Go.WideShapes Go.ChangeAt Go.RowKit

theorem wp_0 : Num.wp [48] = (0, 0) := by
  have h := Num.wp_itoa 0 (by omega) (by omega)
  rw [show Lib.itoa 0 = [48] by first | rfl | decide +kernel] at h
  exact h
theorem wp_1 : Num.wp [49] = (1, 0) := by
  have h := Num.wp_itoa 1 (by omega) (by omega)
  rw [show Lib.itoa 1 = [49] by first | rfl | decide +kernel] at h
  exact h
theorem names_p1 : Lw.parseR [13, 10, 80, 73, 78, 71, 10] = .got [] 2 := by
  have e : Lw.parseR [13, 10, 80, 73, 78, 71, 10] = match Lw.wrun (.gap []) [] with
    | none => .bad
    | some ws => .got ws 2 := by rfl
  rw [e, Lw.w_gap0]
  rfl
theorem names_p2 : Lw.parseR [42, 48, 13, 10] = .got [] 4 := by
  have h : Lw.numR (-1) 64 [48, 13, 10] = .got 0 3 := by
    have e : Lw.numR (-1) 64 [48, 13, 10] = if (Num.wp [48]).2 = 0 ∧ -1 ≤ (Num.wp [48]).1 ∧ (Num.wp [48]).1 ≤ 64 then .got (Num.wp [48]).1 3 else .bad := by rfl
    rw [e, wp_0]
    rfl
  show (match Lw.numR (-1) 64 [48, 13, 10] with
    | .bad => (Lw.R.bad : Lw.R (List (List UInt8)))
    | .short => .short
    | .got n u => Lw.loopR n.toNat (1 + u) [] [42, 48, 13, 10]) = _
  rw [h]
  rfl
theorem names_p3 : Lw.parseR [42, 49, 13, 10, 58, 49, 13, 10] = .bad := by
  have h : Lw.numR (-1) 64 [49, 13, 10, 58, 49, 13, 10] = .got 1 3 := by
    have e : Lw.numR (-1) 64 [49, 13, 10, 58, 49, 13, 10] = if (Num.wp [49]).2 = 0 ∧ -1 ≤ (Num.wp [49]).1 ∧ (Num.wp [49]).1 ≤ 64 then .got (Num.wp [49]).1 3 else .bad := by rfl
    rw [e, wp_1]
    rfl
  show (match Lw.numR (-1) 64 [49, 13, 10, 58, 49, 13, 10] with
    | .bad => (Lw.R.bad : Lw.R (List (List UInt8)))
    | .short => .short
    | .got n u => Lw.loopR n.toNat (1 + u) [] [42, 49, 13, 10, 58, 49, 13, 10]) = _
  rw [h]
  rfl
theorem names_w1 : Lw.wrun (.gap []) [34, 97] = none := by simp [Lw.wrun, Lw.gap]
theorem names_w2 : Lw.wrun (.gap []) [39, 105, 116, 92, 39, 115, 39, 32, 34, 92, 120, 52, 49, 92, 110, 34] = some [[105, 116, 39, 115], [65, 10]] := by
  simp [Lw.wrun, Lw.gap, Lw.check, Lw.fine, Lw.esc, Lw.escX, Lw.hexN]
set_option maxHeartbeats 8000000 in
set_option maxRecDepth 1000000 in
theorem linesNames (w : World) (hc : PCtx w) (hmx : MaxOk w) : Calls Tryd.prog 3 #[] w fun e w' => e = .returned (.bool true) ∧ Below w.heap.size w w' := by
  have HA := Lib.hid (alive_calls w hc hmx)
  have HC := Lib.hid hc
  have HM := Lib.hid hmx
  have kc := fun (w : World) (C : Array Value) (n c : Nat) => Lib.run_convert_bytes_const (P := Tryd.prog) w 27 5 C n c Tryd.underlying27 Tryd.underlying5
  have HP := Lib.hid (fun (w1 : World) (h : Below w.heap.size w w1) (C : Array Value) (l : List UInt8) (hC : C = (cellsB l).toArray) (fr : Nat × Nat) (hl : l.length ≤ 1000000) =>
    parse_calls l hl (some ⟨w1.heap.size, 0, none⟩) l.length (fun e => by cases e) (w1.alloc (.cells C 5 fr)) (hc.below (bstep h (bbox _))) (hmx.below (bstep h (bbox _))) (inb_new w1 C l hC fr hl))
  have HW := Lib.hid (fun (s : ByteArray) (hs : s.size ≤ 1000000) (w1 : World) (h : Below w.heap.size w w1) => words_calls s hs w1 (hc.below h).toLCtx)
  clear hc hmx
  go_enter Tryd.func3, Tryd.ntmps3
  go_wp2_with fail
  refine HA.out.mono ?_; rintro en w1 ⟨rfl, hb1⟩
  have Hb1 := Lib.hid hb1
  clear hb1
  go_wp2_with fail
  have h := HP.out w1 Hb1.out #[.int .u8 13, .int .u8 10, .int .u8 80, .int .u8 73, .int .u8 78, .int .u8 71, .int .u8 10] [13, 10, 80, 73, 78, 71, 10] rfl (7, 8) (by decide)
  rw [names_p1] at h
  refine h.mono ?_; rintro en w2 ⟨hb2, hans⟩
  have Hb2 := Lib.hid (bstep (bstep Hb1.out (bbox _)) hb2)
  clear hb2 h
  rcases hans with ⟨h, -⟩ | ⟨h, -⟩ | ⟨ws, u, v1, h, rfl, -⟩
  · cases h
  · cases h
  injection h with e1 e2
  subst e1 e2
  go_wp2_with fail
  have h := HP.out w2 Hb2.out #[.int .u8 42, .int .u8 48, .int .u8 13, .int .u8 10] [42, 48, 13, 10] rfl (4, 5) (by decide)
  rw [names_p2] at h
  refine h.mono ?_; rintro en w3 ⟨hb3, hans⟩
  have Hb3 := Lib.hid (bstep (bstep Hb2.out (bbox _)) hb3)
  clear hb3 h
  rcases hans with ⟨h, -⟩ | ⟨h, -⟩ | ⟨ws, u, v2, h, rfl, -⟩
  · cases h
  · cases h
  injection h with e1 e2
  subst e1 e2
  go_wp2_with fail
  have h := HP.out w3 Hb3.out #[.int .u8 42, .int .u8 49, .int .u8 13, .int .u8 10, .int .u8 58, .int .u8 49, .int .u8 13, .int .u8 10] [42, 49, 13, 10, 58, 49, 13, 10] rfl (8, 9) (by decide)
  rw [names_p3] at h
  refine h.mono ?_; rintro en w4 ⟨hb4, hans⟩
  have Hb4 := Lib.hid (bstep (bstep Hb3.out (bbox _)) hb4)
  clear hb4 h
  rcases hans with ⟨-, rfl⟩ | ⟨h, -⟩ | ⟨ws, u, v2, h, -, -⟩
  · go_wp2_with fail
    have h := HW.out ⟨#[34, 97]⟩ (by decide) w4 Hb4.out
    rw [show (⟨#[34, 97]⟩ : ByteArray).data.toList = [34, 97] from rfl, names_w1] at h
    refine h.mono ?_; rintro en w5 ⟨hb5, hans⟩
    have Hb5 := Lib.hid (bstep Hb4.out hb5)
    clear hb5 h
    rcases hans with ⟨-, rfl⟩ | ⟨ws, v5, h, -⟩
    · go_wp2_with fail
      have h := HW.out ⟨#[39, 105, 116, 92, 39, 115, 39, 32, 34, 92, 120, 52, 49, 92, 110, 34]⟩ (by decide) w5 Hb5.out
      rw [show (⟨#[39, 105, 116, 92, 39, 115, 39, 32, 34, 92, 120, 52, 49, 92, 110, 34]⟩ : ByteArray).data.toList = [39, 105, 116, 92, 39, 115, 39, 32, 34, 92, 120, 52, 49, 92, 110, 34] from rfl, names_w2] at h
      refine h.mono ?_; rintro en w6 ⟨hb6, hans⟩
      have Hb6 := Lib.hid (bstep Hb5.out hb6)
      clear hb6 h
      rcases hans with ⟨h, -⟩ | ⟨ws, v6, h, rfl, hS⟩
      · cases h
      injection h with e1
      subst e1
      obtain ⟨a4, c4, rfl, hc4, hm4, hcells⟩ := (Lie.of hS).facts
      obtain ⟨g, rfl, hx0⟩ := hcells 0 (by decide)
      obtain ⟨g2, e2, hx1⟩ := hcells 1 (by decide)
      injection e2 with e2; injection e2 with e2 _; subst e2
      have hx0 : w6.cell? ⟨g, 0, none⟩ = some (.string ⟨#[105, 116, 39, 115]⟩) := hx0
      have hx1 : w6.cell? ⟨g, 1, none⟩ = some (.string ⟨#[65, 10]⟩) := hx1
      have hc4 : 2 ≤ c4 := hc4
      clear hcells hS HA HP HW
      go_wp2_with fail
      go_ret
      exact ⟨rfl, Hb6.out⟩
    · cases h
  · cases h
  · cases h
end Go.Proofs.YtpiaidhpemjfoaaDoor.Ln
