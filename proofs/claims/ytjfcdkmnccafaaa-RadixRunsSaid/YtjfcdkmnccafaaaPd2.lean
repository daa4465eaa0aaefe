/- slices.Replace of one node by none or by one, where others stand behind it. Conditions: the rows as they lie, in blocks of their own. -/
import Derived.Test.YtjfcdkmnccafaaaPd1
namespace Go.Proofs.Ytjfcdkmnccafaaa.Pb
open Go.ChangeShapes Go.WideShapes Go.ChangeAt Go.RowKit
theorem copy_none (w : World) (g i n e : Nat) (xa : Option Addr) (xc : Nat) (ty : TypeId) : (Builtin.copy_ #[47, 47] ty #[.slice (some ⟨g, i, none⟩) n e, .slice xa 0 xc]).run Try.prog w = .ok (goInt 0) w := by
  obtain ⟨i0, hi0, hz0, hz1, hz2⟩ := info_parts iNode
  have hf : ∀ w' : World, (Builtin.firstCells 1 0 (.slice xa 0 xc)).run Try.prog w' = .ok #[] w' := fun w' => by
    cases xa with
    | none => exact run_firstCells_none w' 1 0 0 xc
    | some a => exact run_firstCells_some w' 1 0 a 0 xc [] rfl (fun j v h => by cases h)
  simp [Builtin.copy_, run_underlying Try.underlying47, Builtin.lenOf, sizeOf, typeInfo, hi0, hz1, hf, storeCells]
set_option maxHeartbeats 4000000 in
set_option maxRecDepth 100000 in
/-- slices.Replace in place, where others stand behind: the walk. -/
theorem rep_walk (w W1 W2 W3 : World) (g n cap i m d1 d3 t z e1 e3 e4 e5 : Nat) (im : Int) (xa : Option Addr) (xc : Nat) (a1 a3 a4 a5 : Addr) (v1 v2 : Value)
    (r00 : ∀ w2 : World, Sem.run Try.prog (Instr.sliceAt 47 (.slice (some ⟨g, 0, none⟩) n cap) (some (.int .i64 i)) (some (.int .i64 (i + 1))) none) w2 = .ok (.slice (some ⟨g, i, none⟩) 1 (cap - i)) w2)
    (r0 : ∀ w2 : World, Sem.run Try.prog (Instr.sliceAt 47 (.slice (some ⟨g, 0, none⟩) n cap) none (some (.int .i64 i)) none) w2 = .ok (.slice (some ⟨g, 0, none⟩) i cap) w2)
    (r1 : ∀ w2 : World, Sem.run Try.prog (Instr.sliceAt 47 (.slice (some ⟨g, 0, none⟩) n cap) (some (.int .i64 (i + 1))) none none) w2 = .ok (.slice (some a1) d1 e1) w2)
    (r2 : ∀ w2 : World, Sem.run Try.prog (Instr.sliceAt 47 (.slice (some ⟨g, 0, none⟩) n cap) none (some (.int .i64 t)) none) w2 = .ok (.slice (some ⟨g, 0, none⟩) t cap) w2)
    (r3 : ∀ w2 : World, Sem.run Try.prog (Instr.sliceAt 47 (.slice (some ⟨g, 0, none⟩) t cap) (some (.int .i64 i)) none none) w2 = .ok (.slice (some a3) d3 e3) w2)
    (r5 : ∀ w2 : World, Sem.run Try.prog (Instr.sliceAt 47 (.slice (some ⟨g, 0, none⟩) t cap) (some (.int .i64 im)) none none) w2 = .ok (.slice (some a5) d1 e5) w2)
    (r4 : ∀ w2 : World, Sem.run Try.prog (Instr.sliceAt 47 (.slice (some ⟨g, 0, none⟩) n cap) (some (.int .i64 t)) none none) w2 = .ok (.slice (some a4) z e4) w2)
    (hw1 : IntKind.i64.wrap ((i : Int) + (m : Int)) = im) (hw2 : IntKind.i64.wrap (im + (d1 : Int)) = (t : Int)) (him : im ≤ (i : Int) + 1) (hct : (t : Int) ≤ (cap : Int)) (hij : ((i : Int) == (i : Int) + 1) = false) (hjn : ((i : Int) + 1 == (n : Int)) = false)
    (hcp1 : ∀ ty, (Builtin.copy_ #[47, 47] ty #[.slice (some a3) d3 e3, .slice xa m xc]).run Try.prog w.drew = .ok v1 W1)
    (hcp2 : ∀ ty, (Builtin.copy_ #[47, 47] ty #[.slice (some a5) d1 e5, .slice (some a1) d1 e1]).run Try.prog W1.drew = .ok v2 W2)
    (hcl : ∀ ty, (Builtin.clear_ #[47] ty #[.slice (some a4) z e4]).run Try.prog W2 = .ok (.tuple #[]) W3) :
    Calls Try.prog 39 #[.slice (some ⟨g, 0, none⟩) n cap, .int .i64 i, .int .i64 (i + 1), .slice xa m xc] w fun e w' => e = .returned (.slice (some ⟨g, 0, none⟩) t cap) ∧ w' = W3 := by
  have hct2 : ¬ (cap : Int) < (t : Int) := by omega
  have hct3 : ¬ cap < t := by omega
  have hct4 : decide ((cap : Int) < (t : Int)) = false := decide_eq_false hct2
  have him2 : decide (im ≤ (i : Int) + 1) = true := decide_eq_true him
  go_enter Try.func39, Try.ntmps39
  go_wp2_with fail
  go_region_law (fail)
  go_wp2_with fail
  go_region_law (refine step_copy_runI rfl _ _ 47 47 rfl _ _ (by simp [Act.eval, Act.put]) (by simp [Act.eval, Act.put]) (hcp2 _) ?_)
  go_wp2_with (simp only [hcl])
  go_ret
  exact ⟨rfl, rfl⟩
set_option maxHeartbeats 4000000 in
/-- slices.Replace of one node by none or by one, where others stand behind it. -/
theorem rep_mid (w : World) (g n cap : Nat) (l : List Nat) (hn : l.length = n) (cur : Array Value) (hg : w.heap[g]? = some (.cells cur 46 (0, 0))) (hcs : cur.size = cap) (hcur : cur.toList.take n = l.map ptr) (hnc : n ≤ cap) (hcm : cap ≤ maxLen) (i : Nat) (hi : i + 1 < n) (x : Value) (ks : List Nat) (hx : KsAt w x ks) (hk : ks.length ≤ 1) (hxg : x.ownBlock ≠ some g) :
    Calls Try.prog 39 #[.slice (some ⟨g, 0, none⟩) n cap, .int .i64 i, .int .i64 (i + 1), x] w fun e w' => ∃ v', e = .returned v' ∧ Ins w w' (.slice (some ⟨g, 0, none⟩) n cap) v' (l.take i ++ (ks ++ l.drop (i + 1))) := by
  obtain ⟨i0, hi0, hz0, hz1, hz2⟩ := info_parts iNode
  have hsz : (Try.prog.info? 46).map (·.size) = some 1 := by rw [hi0]; simp [hz1]
  have hcm2 : cap ≤ 9223372036854775807 := by unfold maxLen at hcm; omega
  obtain ⟨X, hX⟩ : ∃ X, X = l.map ptr := ⟨_, rfl⟩
  rw [← hX] at hcur
  have hXl : X.length = n := by rw [hX, List.length_map, hn]
  have hX1 : ∀ v ∈ X, v.oneCell' = true := fun v hv => by
    rw [hX] at hv
    obtain ⟨y, -, rfl⟩ := List.mem_map.1 hv
    rfl
  obtain ⟨m, hm⟩ : ∃ m, ks.length = m := ⟨_, rfl⟩
  obtain ⟨xa, xc, rfl, -, -, hxs⟩ := hx.slice
  rw [hm] at hk hx
  rw [hm]
  obtain ⟨t, ht⟩ : ∃ t, t = n - 1 + m := ⟨_, rfl⟩
  obtain ⟨d1, hd1⟩ : ∃ d, d = n - (i + 1) := ⟨_, rfl⟩
  have r00 := cutLH g n cap i (by omega) hnc
  have r0 := cutH g n cap i (by omega)
  obtain ⟨a1, r1, h1⟩ := cutL g n cap (i + 1) (by omega) hnc
  rw [h1 (by omega), ← hd1, show ((i + 1 : Nat) : Int) = (i : Int) + 1 by omega] at r1
  have r2 := cutH g n cap t (by omega)
  obtain ⟨a3, r3, h3⟩ := cutL g t cap i (by omega) (by omega)
  rw [h3 (by omega)] at r3
  obtain ⟨a5, r5, h5⟩ := cutL g t cap (i + m) (by omega) (by omega)
  rw [h5 (by omega), show t - (i + m) = d1 by omega] at r5
  obtain ⟨a4, r4, h4⟩ := cutL g n cap t (by omega) (by omega)
  -- the three steps
  obtain ⟨Y, hY⟩ : ∃ Y, Y = ks.map ptr := ⟨_, rfl⟩
  have hYl : Y.length = m := by rw [hY, List.length_map, hm]
  obtain ⟨R1, hR1⟩ : ∃ R1, R1 = cur.toList.take i ++ Y ++ cur.toList.drop (i + m) := ⟨_, rfl⟩
  have hR1l : R1.length = cap := by rw [hR1]; simp only [List.length_append, List.length_take, List.length_drop, Array.length_toList, hYl]; omega
  have hc1 : ∀ ty, (Builtin.copy_ #[47, 47] ty #[.slice (some ⟨g, i, none⟩) (t - i) (cap - i), .slice xa m xc]).run Try.prog w.drew = .ok (goInt m) (w.drew.setRow g R1.toArray) := fun ty => by
    by_cases h0 : m = 0
    · have e : R1.toArray = cur := by
        have : Y = [] := List.eq_nil_of_length_eq_zero (by omega)
        rw [hR1, this, h0, Nat.add_zero, List.append_nil, List.take_append_drop]
      rw [h0, e, setRow_self w.drew g cur _ _ hg]
      exact copy_none w.drew g i _ _ xa xc ty
    · obtain ⟨k, rfl, -, -⟩ := hxs 0 (by omega)
      have := run_copy_row (P := Try.prog) w.drew 47 47 ty 46 g i (t - i) (cap - i) ⟨k, 0, none⟩ m xc cur 46 Y Try.underlying47 hsz hg (by rw [hYl]; show m = min m (t - i); omega)
        (fun j v hj => by
          have hjl : j < ks.length := by have := (List.getElem?_eq_some_iff.1 hj).1; omega
          obtain ⟨k', e, -, hc⟩ := hxs j (by omega)
          cases e
          rw [hY, List.getElem?_map, List.getElem?_eq_getElem hjl] at hj
          cases hj
          rw [Addr.add_lit, Nat.zero_add]
          exact hc)
        (by rw [hYl]; omega) (fun v hv => by rw [hY] at hv; obtain ⟨y, -, rfl⟩ := List.mem_map.1 hv; rfl)
      rw [hYl, ← hR1] at this
      exact this
  have hg1 : (w.drew.setRow g R1.toArray).heap[g]? = some (.cells R1.toArray 46 (0, 0)) := setRow_heap w.drew g cur _ _ _ hg
  have hR1d : R1.drop (i + m) = cur.toList.drop (i + m) := by
    rw [hR1, List.drop_append_of_le_length (by simp only [List.length_append, List.length_take, Array.length_toList, hYl]; omega), List.drop_of_length_le (by simp only [List.length_append, List.length_take, Array.length_toList, hYl]; omega), List.nil_append]
  have hdl : (X.drop (i + 1)).length = d1 := by rw [List.length_drop, hXl, hd1]
  obtain ⟨R2, hR2⟩ : ∃ R2, R2 = R1.take (i + m) ++ X.drop (i + 1) ++ R1.drop (i + m + d1) := ⟨_, rfl⟩
  have hR2l : R2.length = cap := by rw [hR2]; simp only [List.length_append, List.length_take, List.length_drop, hR1l, hXl]; omega
  have hR1t : R1.take (i + m) = X.take i ++ Y := by
    rw [hR1, List.take_append_of_le_length (by simp only [List.length_append, List.length_take, Array.length_toList, hYl]; omega), List.take_of_length_le (by simp only [List.length_append, List.length_take, Array.length_toList, hYl]; omega), ← hcur, List.take_take, Nat.min_eq_left (by omega)]
  have hc2 : ∀ ty, (Builtin.copy_ #[47, 47] ty #[.slice (some ⟨g, i + m, none⟩) d1 (cap - (i + m)), .slice (some ⟨g, i + 1, none⟩) d1 (cap - (i + 1))]).run Try.prog (w.drew.setRow g R1.toArray).drew = .ok (goInt d1) ((w.drew.setRow g R1.toArray).drew.setRow g R2.toArray) := fun ty => by
    have := run_copy_row (P := Try.prog) (w.drew.setRow g R1.toArray).drew 47 47 ty 46 g (i + m) d1 (cap - (i + m)) ⟨g, i + 1, none⟩ d1 (cap - (i + 1)) R1.toArray 46 (X.drop (i + 1)) Try.underlying47 hsz hg1 (by rw [hdl]; show d1 = min d1 d1; omega)
      (fun j v hj => by
        have hjl : j < (X.drop (i + 1)).length := (List.getElem?_eq_some_iff.1 hj).1
        rw [Addr.add_lit]
        show World.cell? (w.drew.setRow g R1.toArray) ⟨g, i + 1 + j, none⟩ = some v
        rw [cell_setRow_same w.drew g (i + 1 + j) cur R1.toArray _ _ hg]
        have e : R1[i + 1 + j]? = cur.toList[i + 1 + j]? := by
          have e1 : R1[i + 1 + j]? = (R1.drop (i + m))[1 - m + j]? := by rw [List.getElem?_drop, show i + m + (1 - m + j) = i + 1 + j by omega]
          rw [e1, hR1d, List.getElem?_drop, show i + m + (1 - m + j) = i + 1 + j by omega]
        rw [List.getElem?_toArray, e]
        rw [← hcur, List.getElem?_drop, List.getElem?_take] at hj
        split at hj
        · exact hj
        · cases hj)
      (by rw [hdl]; simp only [List.size_toArray]; omega) (fun v hv => hX1 v (List.mem_of_mem_drop hv))
    rw [hdl, ← hR2] at this
    exact this
  have hg2 : ((w.drew.setRow g R1.toArray).drew.setRow g R2.toArray).heap[g]? = some (.cells R2.toArray 46 (0, 0)) := setRow_heap _ g _ _ _ _ hg1
  have hR2t : R2.take t = X.take i ++ (Y ++ X.drop (i + 1)) := by
    rw [hR2, hR1t, List.take_append_of_le_length (by simp only [List.length_append, List.length_take, hXl, hYl, hdl]; omega), List.take_of_length_le (by simp only [List.length_append, List.length_take, hXl, hYl, hdl]; omega), List.append_assoc]
  have hll : (l.take i ++ (ks ++ l.drop (i + 1))).length = t := by simp only [List.length_append, List.length_take, List.length_drop]; omega
  have hpt : (l.take i ++ (ks ++ l.drop (i + 1))).map ptr = X.take i ++ (Y ++ X.drop (i + 1)) := by rw [hX, hY]; simp
  have hGR : w.grownBy ((w.drew.setRow g R1.toArray).drew.setRow g R2.toArray) (some g) := gr_set (gr_drew (gr_set (gr_drew (gr_self w _))))
  have fin : ∃ e4 a4' W3, (∀ w2 : World, Sem.run Try.prog (Instr.sliceAt 47 (.slice (some ⟨g, 0, none⟩) n cap) (some (.int .i64 t)) none none) w2 = .ok (.slice (some a4') (n - t) e4) w2) ∧
      (∀ ty, (Builtin.clear_ #[47] ty #[.slice (some a4') (n - t) e4]).run Try.prog ((w.drew.setRow g R1.toArray).drew.setRow g R2.toArray) = .ok (.tuple #[]) W3) ∧ Ins w W3 (.slice (some ⟨g, 0, none⟩) n cap) (.slice (some ⟨g, 0, none⟩) t cap) (l.take i ++ (ks ++ l.drop (i + 1))) := by
    by_cases h0 : m = 0
    · rw [h4 (by omega), show n - t = 1 by omega] at r4
      refine ⟨_, _, _, by rw [show n - t = 1 by omega]; exact r4, fun ty => by rw [show n - t = 1 by omega]; exact clear_row _ g t _ R2.toArray hg2 (by simp only [List.size_toArray, hR2l]; omega) ty, ?_, gr_set hGR, .inl rfl⟩
      refine ks_set _ g t cap _ _ _ hg2 hll (by omega) hcm (by simp only [List.length_append, List.length_take, List.length_drop, List.length_singleton, hR2l]; omega) ?_
      rw [List.append_assoc, List.take_append_of_le_length (by simp only [List.length_take, hR2l]; omega), List.take_take, Nat.min_self, hR2t, hpt]
    · rw [show n - t = 0 by omega] at r4
      refine ⟨_, _, _, by rw [show n - t = 0 by omega]; exact r4, fun ty => by rw [show n - t = 0 by omega]; exact clear_none _ _ _ ty, ?_, hGR, .inl rfl⟩
      exact ks_set _ g t cap _ _ _ hg1 hll (by omega) hcm hR2l (by rw [hR2t, hpt])
  obtain ⟨e4, a4', W3, r4', hcl, hI⟩ := fin
  refine (rep_walk w _ _ W3 g n cap i m d1 (t - i) t (n - t) _ _ e4 _ ((i + m : Nat) : Int) xa xc _ _ a4' _ _ _ r00 r0 r1 r2 r3 r5 r4' (by rw [IntKind.wrap_i64]; omega) (by rw [IntKind.wrap_i64]; omega) (by omega) (by omega) (by rw [beq_eq_false_iff_ne]; omega) (by rw [beq_eq_false_iff_ne]; omega) hc1 hc2 hcl).mono ?_
  rintro e w' ⟨rfl, rfl⟩
  exact ⟨_, rfl, hI⟩
/-- slices.Replace of one node by none or by one. -/
theorem replace_calls {w : World} {v x : Value} {l ks : List Nat} (hR : KsAt w v l) (hx : KsAt w x ks) (hk : ks.length ≤ 1) (hvx : x.ownBlock = none ∨ x.ownBlock ≠ v.ownBlock) {i : Nat} (hi : i < l.length) :
    Calls Try.prog 39 #[v, .int .i64 i, .int .i64 (i + 1), x] w fun e w' => ∃ v', e = .returned v' ∧ Ins w w' v v' (l.take i ++ (ks ++ l.drop (i + 1))) := by
  rcases hR.2 with ⟨rfl, hn⟩ | ⟨g, cap, cur, rfl, hg, hh, h1, h2, h3, h4⟩
  · omega
  · rw [Nat.mul_one] at h3 h4
    by_cases hie : i + 1 = l.length
    · have hd : l.drop (i + 1) = [] := List.drop_of_length_le (by omega)
      rw [hd, List.append_nil]
      match ks, hk, hx with
      | [], _, hx =>
        obtain ⟨xa, xc, rfl⟩ := hx.none_
        rw [List.append_nil]
        exact rep_end_none w g l.length cap l rfl cur hh h3 h4 h1 h2 i hie xa xc
      | [c], _, hx =>
        obtain ⟨k, kc, rfl, hc⟩ := hx.one_
        exact rep_end_one w g l.length cap l rfl cur hh h3 h4 h1 h2 i hie c k kc hc
    · refine rep_mid w g l.length cap l rfl cur hh h3 h4 h1 h2 i (by omega) x ks hx hk ?_
      rcases hvx with h | h
      · rw [h]; simp
      · exact h
end Go.Proofs.Ytjfcdkmnccafaaa.Pb
