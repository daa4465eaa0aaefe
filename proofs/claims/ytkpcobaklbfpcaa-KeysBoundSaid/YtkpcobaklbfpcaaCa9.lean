/- Package recent: All; the object beside other memory (RC), its calls in one form. Conditions: an object as it lies; bounds. -/
import Derived.Test.YtkpcobaklbfpcaaCa8
namespace Go.Proofs.Ytkpcobaklbfpcaa.Ca
open Go.ChangeShapes Go.WideShapes Go.ChangeAt Go.RowKit Go.Maps Go.WideMaps
set_option maxHeartbeats 4000000 in
set_option maxRecDepth 100000 in
theorem all_calls {w : World} {T M E : Nat} {L : Lk} {D : DataW Unit} (h : RAt w T M E L D) (hL : L.length ≤ 1000000) :
    Calls Try.prog 30 #[.pointer (some ⟨T, 0, none⟩)] w fun e w' => ∃ v, e = .returned v ∧ RowT w w' v (L.map (·.2)) := by
  have HLn := Lib.hid (len_calls h)
  have HH := Lib.hid h
  clear h
  obtain ⟨i0, hi, hz0, hz1, hz2⟩ := info_parts iStr
  have hmk : ∀ w : World, Sem.run Try.prog (Instr.makeSlice 44 (.int .i64 0) (.int .i64 (L.length : Int))) w = .ok (.slice (some ⟨w.heap.size, 0, none⟩) 0 L.length) (w.alloc (.cells (madeCells (Value.string ⟨#[]⟩).cells (L.length * 1)) 9)) := fun w => by
    have := run_make w 44 9 i0 _ Try.underlying44 hi hz0 .i64 .i64 0 L.length (by omega) (by omega) (by rw [hz2]; omega) (by omega)
    rw [hz1, Int.toNat_natCast] at this
    exact this
  clear hi hz0 hz1 hz2
  have HR2 : Hid (RowT w (w.alloc (.cells (madeCells #[Value.string ⟨#[]⟩] L.length) 9)) (.slice (some ⟨w.heap.size, 0, none⟩) 0 L.length) []) := Lib.hid (rowT_made2 (Below.refl _ _) (madeCells #[Value.string ⟨#[]⟩] L.length) L.length (by omega) (by rw [size_madeCells, Nat.mul_one]))
  go_enter Try.func30, Try.ntmps30
  go_wp2_with fail
  refine HLn.out.mono ?_; rintro en w2 ⟨rfl, rfl⟩
  have H3 := Lib.hid (HH.out.below HR2.out.bel)
  have HS : Hid ((w.alloc (.cells (madeCells #[Value.string ⟨#[]⟩] L.length) 9)).heap.size = w.heap.size + 1) := Lib.hid (by simp)
  have d1 := H3.out.c1
  have e0 := H3.out.ring.up 0 (Nat.zero_le _)
  rw [nd_zero] at e0
  go_wp2_with fail
  clear hmk d1 e0 H3 HS
  generalize w.alloc (.cells (madeCells #[Value.string ⟨#[]⟩] L.length) 9) = w3 at *
  generalize Value.slice (some ⟨w.heap.size, 0, none⟩) 0 L.length = v0 at *
  go_loopg [3, 4] (L.length + 1) (fun g v3 vi wr => ∃ i : Nat, vi = .pointer (some ⟨nd E L (i + 1), 0, none⟩) ∧ i ≤ L.length ∧ L.length - i ≤ g ∧ Hid (RowT w wr v3 ((L.map (·.2)).take i)))
  case atStart => exact ⟨0, rfl, Nat.zero_le _, by omega, HR2⟩
  case round =>
    obtain ⟨i, rfl, hi, hg, HR⟩ := hrel
    have H4 := Lib.hid (HH.out.below HR.out.bel)
    have d1 := H4.out.c1
    have e0 := H4.out.ring.up 0 (Nat.zero_le _)
    rw [nd_zero] at e0
    by_cases hil : i < L.length
    case pos =>
      have hx := nd_succ (E := E) hil
      have hne : nd E L (i + 1) ≠ E := fun e => by have := H4.out.ring.ne (i + 1) 0 (by omega) (by omega) e; omega
      have k0 := H4.out.ring.key i hil
      have k2 := H4.out.ring.up (i + 1) (by omega)
      rw [← hx] at k0
      have hnq := neqP wr hne k2 e0 (fun n => H4.out.ring.fz _ n (by omega)) (fun n => H4.out.ring.fz 0 n (Nat.zero_le _))
      have hil2 : i < (L.map (·.2)).length := by rw [List.length_map]; exact hil
      have HZ : Hid ((L.map (·.2)).take i ++ [L[i].2] = (L.map (·.2)).take (i + 1)) := Lib.hid (by rw [← List.take_append_getElem hil2]; simp)
      have HLe : Hid (((L.map (·.2)).take i).length ≤ 1000000) := Lib.hid (by have := List.length_take_le i (L.map (·.2)); omega)
      clear hx e0
      generalize L[i].2 = k at *
      have HR1 := Lib.hid (HR.out.below (bbox (.cells #[.string k] 9)))
      go_wp2_with (at_builtin; refine str_push HR1.out rfl _ _ rfl rfl [k] _ rfl rfl (inT_new _ _ _) ?hl ?hr ?_)
      case hl => omega
      intro v5 w5 hR5
      have HR5 := Lib.hid hR5
      rw [HZ.out] at HR5
      have k5 := (HH.out.below HR5.out.bel).ring.up (i + 1) (by omega)
      clear hR5 k0 k2 d1 hnq
      go_wp2_with fail
      go_roundg (gk - 1)
      case measure => omega
      case rel => exact ⟨i + 1, rfl, by omega, by omega, HR5⟩
    case neg =>
      have hx : nd E L (i + 1) = E := nd_end (by omega)
      rw [hx]
      have hnq := eqlP wr E
      have HZ : Hid ((L.map (·.2)).take i = L.map (·.2)) := Lib.hid (List.take_of_length_le (by rw [List.length_map]; omega))
      clear e0 H4
      go_wp2_with fail
      go_ret
      exact ⟨_, rfl, by rw [← HZ.out]; exact HR.out⟩
end Go.Proofs.Ytkpcobaklbfpcaa.Ca
