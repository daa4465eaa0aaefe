/- slices.Replace of one node by none or by one: in place. Conditions: the rows as they lie, in blocks of their own. -/
import Derived.Test.YtnmncjeplfkdpaaPbB
import Derived.Deep.Upon
import Derived.Deep.QuietTactic
import Derived.Test.YtnmncjeplfkdpaaPbC
import Derived.Deep.RegionWith
namespace Go.Proofs.Ytnmncjeplfkdpaa.Pb
open Go.ChangeShapes Go.WideShapes Go.ChangeAt Go.RowKit
/-- One element wiped. -/
theorem clear_row (w : World) (g o c : Nat) (cur : Array Value) (hg : w.heap[g]? = some (.cells cur 71 (0, 0))) (ho : o < cur.size) (ty : TypeId) :
    (Builtin.clear_ #[72] ty #[.slice (some ⟨g, o, none⟩) 1 c]).run Try.prog w = .ok (.tuple #[]) (w.setRow g (cur.toList.take o ++ [Value.pointer none] ++ cur.toList.drop (o + 1)).toArray) := by
  have hst := run_storeCells_at Try.prog g o 71 [Value.pointer none] 0 cur w hg (by show o + 0 + 1 ≤ cur.size; omega) (by intro v hv; rw [List.mem_singleton.1 hv]; rfl)
  simp only [Nat.add_zero, List.length_singleton] at hst
  have hz : (Builtin.zeroCells (Value.pointer none).cells 1).toList = [Value.pointer none] := by
    rw [show (Value.pointer none).cells = #[Value.pointer none] from rfl]
    simp [Builtin.zeroCells, Nat.mod_one]
  simp [Builtin.clear_, run_underlying Try.underlying72, hz, hst]
theorem clear_none (w : World) (a : Option Addr) (c : Nat) (ty : TypeId) : (Builtin.clear_ #[72] ty #[.slice a 0 c]).run Try.prog w = .ok (.tuple #[]) w := by
  cases a <;> simp [Builtin.clear_, run_underlying Try.underlying72]
theorem src_none (w : World) (size : Nat) (xa : Option Addr) (xc : Nat) : Src Try.prog size 72 (.slice xa 0 xc) 0 [] w := by
  cases xa with
  | none => exact Src.ofNil w Try.underlying72 xc
  | some a => exact Src.ofSlice w Try.underlying72 a 0 xc [] (by simp) (fun j u h => by cases h) (fun u h => by cases h)
/-- 's[i:i+1]', whatever it is. -/
theorem cutLH (g n cap i : Nat) (hi : i + 1 ≤ n) (hn : n ≤ cap) (w2 : World) : Sem.run Try.prog (Instr.sliceAt 72 (.slice (some ⟨g, 0, none⟩) n cap) (some (.int .i64 i)) (some (.int .i64 (i + 1))) none) w2 = .ok (.slice (some ⟨g, i, none⟩) 1 (cap - i)) w2 := by
  rw [run_sliceAt_slice (h := unN), run_slice_lh (ht := unN) (h0 := by omega) (h1 := by omega) (h2 := by omega), szN, run_szN]
  simp only [Result.andThen, sliced, Int.toNat_natCast, Nat.mul_one]
  rw [if_neg (by omega), show (((i : Int) + 1).toNat - i) = 1 by omega]
  simp [Addr.add_lit]
/-- A row of which the cells are others now. -/
theorem ks_set (W : World) (g m cap : Nat) (cur : Array Value) (R : List Value) (l' : List Nat) (hg : W.heap[g]? = some (.cells cur 71 (0, 0))) (hm : l'.length = m) (hmc : m ≤ cap) (hcm : cap ≤ maxLen) (hR : R.length = cap) (ht : R.take m = l'.map ptr) :
    KsAt (W.setRow g R.toArray) (.slice (some ⟨g, 0, none⟩) m cap) l' := by
  subst hm
  exact ⟨by simp, .inr ⟨g, cap, _, rfl, Nat.zero_le _, setRow_heap W g _ _ _ _ hg, hmc, hcm, by simp only [List.size_toArray, hR, Nat.mul_one], by rw [Nat.mul_one]; exact ht⟩⟩
theorem gr_set {w W : World} {g : Nat} {R : Array Value} (h : w.grownBy W (some g)) : w.grownBy (W.setRow g R) (some g) :=
  ⟨h.os, h.tape, h.output, by have := h.size; simpa [World.setRow] using this, fun k hk hkg => (setRow_other W g k _ (fun e => hkg (by rw [e]))).trans (h.block k hk hkg)⟩
theorem gr_drew {w W : World} {o : Option Nat} (h : w.grownBy W o) : w.grownBy W.drew o := ⟨h.os, h.tape, h.output, h.size, h.block⟩
theorem gr_self (w : World) (o : Option Nat) : w.grownBy w o := ⟨rfl, rfl, rfl, Nat.le_refl _, fun _ _ _ => rfl⟩
/-- A row of none: what lies there. -/
theorem KsAt.none_ {w : World} {v : Value} (h : KsAt w v []) : ∃ a c, v = .slice a 0 c := by
  obtain ⟨a, c, rfl, -⟩ := h.slice
  exact ⟨a, c, rfl⟩
theorem KsAt.one_ {w : World} {v : Value} {c : Nat} (h : KsAt w v [c]) : ∃ k kc, v = .slice (some ⟨k, 0, none⟩) 1 kc ∧ w.cell? ⟨k, 0, none⟩ = some (ptr c) := by
  obtain ⟨a, kc, rfl, -, -, hx⟩ := h.slice
  obtain ⟨k, rfl, -, hc⟩ := hx 0 (by simp)
  exact ⟨k, kc, rfl, hc⟩
set_option maxHeartbeats 4000000 in
set_option maxRecDepth 100000 in
/-- The last one goes. -/
theorem rep_end_none (w : World) (g n cap : Nat) (l : List Nat) (hn : l.length = n) (cur : Array Value) (hg : w.heap[g]? = some (.cells cur 71 (0, 0))) (hcs : cur.size = cap) (hcur : cur.toList.take n = l.map ptr) (hnc : n ≤ cap) (hcm : cap ≤ maxLen) (i : Nat) (hi : i + 1 = n) (xa : Option Addr) (xc : Nat) :
    Calls Try.prog 82 #[.slice (some ⟨g, 0, none⟩) n cap, .int .i64 i, .int .i64 (i + 1), .slice xa 0 xc] w fun e w' => ∃ v', e = .returned v' ∧ Ins w w' (.slice (some ⟨g, 0, none⟩) n cap) v' (l.take i) := by
  obtain ⟨i0, hi0, hz0, hz1, hz2⟩ := info_parts iNode
  have r00 := cutLH g n cap i (by omega) hnc
  have r0 := cutH g n cap i (by omega)
  obtain ⟨a1, r1, h1⟩ := cutL g n cap i (by omega) hnc
  rw [h1 (by omega), show n - i = 1 by omega] at r1
  have hap : ∀ ty, (Builtin.append_ #[72, 72] ty #[.slice (some ⟨g, 0, none⟩) i cap, .slice xa 0 xc]).run Try.prog w = .ok (.slice (some ⟨g, 0, none⟩) i cap) w := fun ty =>
    run_append_nothing w _ _ ty _ i0 Try.underlying72 hi0 _ i cap (by omega) _ (src_none w _ xa xc)
  have hcl := clear_row w g i (cap - i) cur hg (by omega)
  have HT : Hid (KsAt (w.setRow g (cur.toList.take i ++ [Value.pointer none] ++ cur.toList.drop (i + 1)).toArray) (.slice (some ⟨g, 0, none⟩) i cap) (l.take i)) := Lib.hid (ks_set w g i cap cur _ _ hg (by rw [List.length_take]; omega) (by omega) hcm
    (by simp only [List.length_append, List.length_take, List.length_drop, List.length_singleton, Array.length_toList]; omega)
    (by rw [List.append_assoc, List.take_append_of_le_length (by simp; omega), List.take_take, Nat.min_self, List.map_take, ← hcur, List.take_take, Nat.min_eq_left (by omega)]))
  have HG : Hid (w.grownBy (w.setRow g (cur.toList.take i ++ [Value.pointer none] ++ cur.toList.drop (i + 1)).toArray) (some g)) := Lib.hid (gr_set (gr_self w _))
  have hij : ((i : Int) == (i : Int) + 1) = false := by rw [beq_eq_false_iff_ne]; omega
  have hjn : ((i : Int) + 1 == (n : Int)) = true := by rw [beq_iff_eq]; omega
  have hin : (i : Int) < (n : Int) := by omega
  clear hg hcs hcur hcm h1 hi hn
  generalize w.setRow g (cur.toList.take i ++ [Value.pointer none] ++ cur.toList.drop (i + 1)).toArray = W2 at *
  go_enter Try.func82, Try.ntmps82
  go_wp2_with (first | (at_builtin; refine Lib.wpList_append_run _ rfl _ _ _ _ rfl _ _ rfl rfl _ _ (hap _) ?_) | simp only [hcl])
  go_ret
  exact ⟨_, rfl, HT.out, HG.out, .inl rfl⟩
set_option maxHeartbeats 4000000 in
set_option maxRecDepth 100000 in
/-- The last one gives way to another one. -/
theorem rep_end_one (w : World) (g n cap : Nat) (l : List Nat) (hn : l.length = n) (cur : Array Value) (hg : w.heap[g]? = some (.cells cur 71 (0, 0))) (hcs : cur.size = cap) (hcur : cur.toList.take n = l.map ptr) (hnc : n ≤ cap) (hcm : cap ≤ maxLen) (i : Nat) (hi : i + 1 = n) (c k kc : Nat) (hc : w.cell? ⟨k, 0, none⟩ = some (ptr c)) :
    Calls Try.prog 82 #[.slice (some ⟨g, 0, none⟩) n cap, .int .i64 i, .int .i64 (i + 1), .slice (some ⟨k, 0, none⟩) 1 kc] w fun e w' => ∃ v', e = .returned v' ∧ Ins w w' (.slice (some ⟨g, 0, none⟩) n cap) v' (l.take i ++ [c]) := by
  obtain ⟨i0, hi0, hz0, hz1, hz2⟩ := info_parts iNode
  have r00 := cutLH g n cap i (by omega) hnc
  have r0 := cutH g n cap i (by omega)
  have hap : ∀ ty, (Builtin.append_ #[72, 72] ty #[.slice (some ⟨g, 0, none⟩) i cap, .slice (some ⟨k, 0, none⟩) 1 kc]).run Try.prog w = .ok (.slice (some ⟨g, 0, none⟩) n cap) (w.setRow g (cur.toList.take i ++ [ptr c] ++ cur.toList.drop (i + 1)).toArray) := fun ty => by
    have h := run_append_room w _ ty _ i0 Try.underlying72 hi0 g i cap cur hg ⟨k, 0, none⟩ 1 kc [ptr c] (by rw [hz1]; rfl) (by intro j u hj; cases j with | zero => cases hj; exact hc | succ j => cases hj) (by intro u hu; rw [List.mem_singleton.1 hu]; rfl) (by omega) (by rw [hz1]; show i * 1 + 1 ≤ _; omega)
    rw [hz1, Nat.mul_one, hi] at h
    exact h
  have HT : Hid (KsAt (w.setRow g (cur.toList.take i ++ [ptr c] ++ cur.toList.drop (i + 1)).toArray) (.slice (some ⟨g, 0, none⟩) n cap) (l.take i ++ [c])) := Lib.hid (ks_set w g n cap cur _ _ hg (by simp; omega) (by omega) hcm
    (by simp only [List.length_append, List.length_take, List.length_drop, List.length_singleton, Array.length_toList]; omega)
    (by rw [List.take_append_of_le_length (by simp; omega), List.take_of_length_le (by simp; omega), List.map_append, List.map_take, ← hcur, List.take_take, Nat.min_eq_left (by omega)]; rfl))
  have HG : Hid (w.grownBy (w.setRow g (cur.toList.take i ++ [ptr c] ++ cur.toList.drop (i + 1)).toArray) (some g)) := Lib.hid (gr_set (gr_self w _))
  have hij : ((i : Int) == (i : Int) + 1) = false := by rw [beq_eq_false_iff_ne]; omega
  have hjn : ((i : Int) + 1 == (n : Int)) = true := by rw [beq_iff_eq]; omega
  clear hg hcs hcur hcm hi hn hc
  generalize w.setRow g (cur.toList.take i ++ [ptr c] ++ cur.toList.drop (i + 1)).toArray = W2 at *
  go_enter Try.func82, Try.ntmps82
  go_wp2_with (at_builtin; refine Lib.wpList_append_run _ rfl _ _ _ _ rfl _ _ rfl rfl _ _ (hap _) ?_)
  go_ret
  exact ⟨_, rfl, HT.out, HG.out, .inl rfl⟩
end Go.Proofs.Ytnmncjeplfkdpaa.Pb
/- slices.Replace of one node by none or by one, where others stand behind it. Conditions: the rows as they lie, in blocks of their own. -/
namespace Go.Proofs.Ytnmncjeplfkdpaa.Pb
open Go.ChangeShapes Go.WideShapes Go.ChangeAt Go.RowKit
theorem copy_none (w : World) (g i n e : Nat) (xa : Option Addr) (xc : Nat) (ty : TypeId) : (Builtin.copy_ #[72, 72] ty #[.slice (some ⟨g, i, none⟩) n e, .slice xa 0 xc]).run Try.prog w = .ok (goInt 0) w := by
  obtain ⟨i0, hi0, hz0, hz1, hz2⟩ := info_parts iNode
  have hf : ∀ w' : World, (Builtin.firstCells 1 0 (.slice xa 0 xc)).run Try.prog w' = .ok #[] w' := fun w' => by
    cases xa with
    | none => exact run_firstCells_none w' 1 0 0 xc
    | some a => exact run_firstCells_some w' 1 0 a 0 xc [] rfl (fun j v h => by cases h)
  simp [Builtin.copy_, run_underlying Try.underlying72, Builtin.lenOf, sizeOf, typeInfo, hi0, hz1, hf, storeCells]
set_option maxHeartbeats 4000000 in
set_option maxRecDepth 100000 in
/-- slices.Replace in place, where others stand behind: the walk. -/
theorem rep_walk (w W1 W2 W3 : World) (g n cap i m d1 d3 t z e1 e3 e4 e5 : Nat) (im : Int) (xa : Option Addr) (xc : Nat) (a1 a3 a4 a5 : Addr) (v1 v2 : Value)
    (r00 : ∀ w2 : World, Sem.run Try.prog (Instr.sliceAt 72 (.slice (some ⟨g, 0, none⟩) n cap) (some (.int .i64 i)) (some (.int .i64 (i + 1))) none) w2 = .ok (.slice (some ⟨g, i, none⟩) 1 (cap - i)) w2)
    (r0 : ∀ w2 : World, Sem.run Try.prog (Instr.sliceAt 72 (.slice (some ⟨g, 0, none⟩) n cap) none (some (.int .i64 i)) none) w2 = .ok (.slice (some ⟨g, 0, none⟩) i cap) w2)
    (r1 : ∀ w2 : World, Sem.run Try.prog (Instr.sliceAt 72 (.slice (some ⟨g, 0, none⟩) n cap) (some (.int .i64 (i + 1))) none none) w2 = .ok (.slice (some a1) d1 e1) w2)
    (r2 : ∀ w2 : World, Sem.run Try.prog (Instr.sliceAt 72 (.slice (some ⟨g, 0, none⟩) n cap) none (some (.int .i64 t)) none) w2 = .ok (.slice (some ⟨g, 0, none⟩) t cap) w2)
    (r3 : ∀ w2 : World, Sem.run Try.prog (Instr.sliceAt 72 (.slice (some ⟨g, 0, none⟩) t cap) (some (.int .i64 i)) none none) w2 = .ok (.slice (some a3) d3 e3) w2)
    (r5 : ∀ w2 : World, Sem.run Try.prog (Instr.sliceAt 72 (.slice (some ⟨g, 0, none⟩) t cap) (some (.int .i64 im)) none none) w2 = .ok (.slice (some a5) d1 e5) w2)
    (r4 : ∀ w2 : World, Sem.run Try.prog (Instr.sliceAt 72 (.slice (some ⟨g, 0, none⟩) n cap) (some (.int .i64 t)) none none) w2 = .ok (.slice (some a4) z e4) w2)
    (hw1 : IntKind.i64.wrap ((i : Int) + (m : Int)) = im) (hw2 : IntKind.i64.wrap (im + (d1 : Int)) = (t : Int)) (him : im ≤ (i : Int) + 1) (hct : (t : Int) ≤ (cap : Int)) (hij : ((i : Int) == (i : Int) + 1) = false) (hjn : ((i : Int) + 1 == (n : Int)) = false)
    (hcp1 : ∀ ty, (Builtin.copy_ #[72, 72] ty #[.slice (some a3) d3 e3, .slice xa m xc]).run Try.prog w.drew = .ok v1 W1)
    (hcp2 : ∀ ty, (Builtin.copy_ #[72, 72] ty #[.slice (some a5) d1 e5, .slice (some a1) d1 e1]).run Try.prog W1.drew = .ok v2 W2)
    (hcl : ∀ ty, (Builtin.clear_ #[72] ty #[.slice (some a4) z e4]).run Try.prog W2 = .ok (.tuple #[]) W3) :
    Calls Try.prog 82 #[.slice (some ⟨g, 0, none⟩) n cap, .int .i64 i, .int .i64 (i + 1), .slice xa m xc] w fun e w' => e = .returned (.slice (some ⟨g, 0, none⟩) t cap) ∧ w' = W3 := by
  have hct2 : ¬ (cap : Int) < (t : Int) := by omega
  have hct3 : ¬ cap < t := by omega
  have hct4 : decide ((cap : Int) < (t : Int)) = false := decide_eq_false hct2
  have him2 : decide (im ≤ (i : Int) + 1) = true := decide_eq_true him
  go_enter Try.func82, Try.ntmps82
  go_wp2_with fail
  go_region_law (fail)
  go_wp2_with fail
  go_region_law (refine step_copy_runI rfl _ _ 72 72 rfl _ _ (by simp [Act.eval, Act.put]) (by simp [Act.eval, Act.put]) (hcp2 _) ?_)
  go_wp2_with (simp only [hcl])
  go_ret
  exact ⟨rfl, rfl⟩
set_option maxHeartbeats 4000000 in
/-- slices.Replace of one node by none or by one, where others stand behind it. -/
theorem rep_mid (w : World) (g n cap : Nat) (l : List Nat) (hn : l.length = n) (cur : Array Value) (hg : w.heap[g]? = some (.cells cur 71 (0, 0))) (hcs : cur.size = cap) (hcur : cur.toList.take n = l.map ptr) (hnc : n ≤ cap) (hcm : cap ≤ maxLen) (i : Nat) (hi : i + 1 < n) (x : Value) (ks : List Nat) (hx : KsAt w x ks) (hk : ks.length ≤ 1) (hxg : x.ownBlock ≠ some g) :
    Calls Try.prog 82 #[.slice (some ⟨g, 0, none⟩) n cap, .int .i64 i, .int .i64 (i + 1), x] w fun e w' => ∃ v', e = .returned v' ∧ Ins w w' (.slice (some ⟨g, 0, none⟩) n cap) v' (l.take i ++ (ks ++ l.drop (i + 1))) := by
  obtain ⟨i0, hi0, hz0, hz1, hz2⟩ := info_parts iNode
  have hsz : (Try.prog.info? 71).map (·.size) = some 1 := by rw [hi0]; simp [hz1]
  have hcm2 : cap ≤ 9223372036854775807 := by unfold maxLen at hcm; omega
  obtain ⟨X, hX⟩ : ∃ X, X = l.map ptr := ⟨_, rfl⟩
  rw [← hX] at hcur
  have hXl : X.length = n := by rw [hX, List.length_map, hn]
  have hX1 : ∀ v ∈ X, v.oneCell' = true := fun v hv => by
    rw [hX] at hv
    obtain ⟨y, -, rfl⟩ := List.mem_map.1 hv
    rfl
  obtain ⟨m, hm⟩ : ∃ m, ks.length = m := ⟨_, rfl⟩
  obtain ⟨xa, xc, rfl, -, -, hxs⟩ := hx.slice
  rw [hm] at hk hx
  rw [hm]
  obtain ⟨t, ht⟩ : ∃ t, t = n - 1 + m := ⟨_, rfl⟩
  obtain ⟨d1, hd1⟩ : ∃ d, d = n - (i + 1) := ⟨_, rfl⟩
  have r00 := cutLH g n cap i (by omega) hnc
  have r0 := cutH g n cap i (by omega)
  obtain ⟨a1, r1, h1⟩ := cutL g n cap (i + 1) (by omega) hnc
  rw [h1 (by omega), ← hd1, show ((i + 1 : Nat) : Int) = (i : Int) + 1 by omega] at r1
  have r2 := cutH g n cap t (by omega)
  obtain ⟨a3, r3, h3⟩ := cutL g t cap i (by omega) (by omega)
  rw [h3 (by omega)] at r3
  obtain ⟨a5, r5, h5⟩ := cutL g t cap (i + m) (by omega) (by omega)
  rw [h5 (by omega), show t - (i + m) = d1 by omega] at r5
  obtain ⟨a4, r4, h4⟩ := cutL g n cap t (by omega) (by omega)
  -- the three steps
  obtain ⟨Y, hY⟩ : ∃ Y, Y = ks.map ptr := ⟨_, rfl⟩
  have hYl : Y.length = m := by rw [hY, List.length_map, hm]
  obtain ⟨R1, hR1⟩ : ∃ R1, R1 = cur.toList.take i ++ Y ++ cur.toList.drop (i + m) := ⟨_, rfl⟩
  have hR1l : R1.length = cap := by rw [hR1]; simp only [List.length_append, List.length_take, List.length_drop, Array.length_toList, hYl]; omega
  have hc1 : ∀ ty, (Builtin.copy_ #[72, 72] ty #[.slice (some ⟨g, i, none⟩) (t - i) (cap - i), .slice xa m xc]).run Try.prog w.drew = .ok (goInt m) (w.drew.setRow g R1.toArray) := fun ty => by
    by_cases h0 : m = 0
    · have e : R1.toArray = cur := by
        have : Y = [] := List.eq_nil_of_length_eq_zero (by omega)
        rw [hR1, this, h0, Nat.add_zero, List.append_nil, List.take_append_drop]
      rw [h0, e, setRow_self w.drew g cur _ _ hg]
      exact copy_none w.drew g i _ _ xa xc ty
    · obtain ⟨k, rfl, -, -⟩ := hxs 0 (by omega)
      have := run_copy_row (P := Try.prog) w.drew 72 72 ty 71 g i (t - i) (cap - i) ⟨k, 0, none⟩ m xc cur 71 Y Try.underlying72 hsz hg (by rw [hYl]; show m = min m (t - i); omega)
        (fun j v hj => by
          have hjl : j < ks.length := by have := (List.getElem?_eq_some_iff.1 hj).1; omega
          obtain ⟨k', e, -, hc⟩ := hxs j (by omega)
          cases e
          rw [hY, List.getElem?_map, List.getElem?_eq_getElem hjl] at hj
          cases hj
          rw [Addr.add_lit, Nat.zero_add]
          exact hc)
        (by rw [hYl]; omega) (fun v hv => by rw [hY] at hv; obtain ⟨y, -, rfl⟩ := List.mem_map.1 hv; rfl)
      rw [hYl, ← hR1] at this
      exact this
  have hg1 : (w.drew.setRow g R1.toArray).heap[g]? = some (.cells R1.toArray 71 (0, 0)) := setRow_heap w.drew g cur _ _ _ hg
  have hR1d : R1.drop (i + m) = cur.toList.drop (i + m) := by
    rw [hR1, List.drop_append_of_le_length (by simp only [List.length_append, List.length_take, Array.length_toList, hYl]; omega), List.drop_of_length_le (by simp only [List.length_append, List.length_take, Array.length_toList, hYl]; omega), List.nil_append]
  have hdl : (X.drop (i + 1)).length = d1 := by rw [List.length_drop, hXl, hd1]
  obtain ⟨R2, hR2⟩ : ∃ R2, R2 = R1.take (i + m) ++ X.drop (i + 1) ++ R1.drop (i + m + d1) := ⟨_, rfl⟩
  have hR2l : R2.length = cap := by rw [hR2]; simp only [List.length_append, List.length_take, List.length_drop, hR1l, hXl]; omega
  have hR1t : R1.take (i + m) = X.take i ++ Y := by
    rw [hR1, List.take_append_of_le_length (by simp only [List.length_append, List.length_take, Array.length_toList, hYl]; omega), List.take_of_length_le (by simp only [List.length_append, List.length_take, Array.length_toList, hYl]; omega), ← hcur, List.take_take, Nat.min_eq_left (by omega)]
  have hc2 : ∀ ty, (Builtin.copy_ #[72, 72] ty #[.slice (some ⟨g, i + m, none⟩) d1 (cap - (i + m)), .slice (some ⟨g, i + 1, none⟩) d1 (cap - (i + 1))]).run Try.prog (w.drew.setRow g R1.toArray).drew = .ok (goInt d1) ((w.drew.setRow g R1.toArray).drew.setRow g R2.toArray) := fun ty => by
    have := run_copy_row (P := Try.prog) (w.drew.setRow g R1.toArray).drew 72 72 ty 71 g (i + m) d1 (cap - (i + m)) ⟨g, i + 1, none⟩ d1 (cap - (i + 1)) R1.toArray 71 (X.drop (i + 1)) Try.underlying72 hsz hg1 (by rw [hdl]; show d1 = min d1 d1; omega)
      (fun j v hj => by
        have hjl : j < (X.drop (i + 1)).length := (List.getElem?_eq_some_iff.1 hj).1
        rw [Addr.add_lit]
        show World.cell? (w.drew.setRow g R1.toArray) ⟨g, i + 1 + j, none⟩ = some v
        rw [cell_setRow_same w.drew g (i + 1 + j) cur R1.toArray _ _ hg]
        have e : R1[i + 1 + j]? = cur.toList[i + 1 + j]? := by
          have e1 : R1[i + 1 + j]? = (R1.drop (i + m))[1 - m + j]? := by rw [List.getElem?_drop, show i + m + (1 - m + j) = i + 1 + j by omega]
          rw [e1, hR1d, List.getElem?_drop, show i + m + (1 - m + j) = i + 1 + j by omega]
        rw [List.getElem?_toArray, e]
        rw [← hcur, List.getElem?_drop, List.getElem?_take] at hj
        split at hj
        · exact hj
        · cases hj)
      (by rw [hdl]; simp only [List.size_toArray]; omega) (fun v hv => hX1 v (List.mem_of_mem_drop hv))
    rw [hdl, ← hR2] at this
    exact this
  have hg2 : ((w.drew.setRow g R1.toArray).drew.setRow g R2.toArray).heap[g]? = some (.cells R2.toArray 71 (0, 0)) := setRow_heap _ g _ _ _ _ hg1
  have hR2t : R2.take t = X.take i ++ (Y ++ X.drop (i + 1)) := by
    rw [hR2, hR1t, List.take_append_of_le_length (by simp only [List.length_append, List.length_take, hXl, hYl, hdl]; omega), List.take_of_length_le (by simp only [List.length_append, List.length_take, hXl, hYl, hdl]; omega), List.append_assoc]
  have hll : (l.take i ++ (ks ++ l.drop (i + 1))).length = t := by simp only [List.length_append, List.length_take, List.length_drop]; omega
  have hpt : (l.take i ++ (ks ++ l.drop (i + 1))).map ptr = X.take i ++ (Y ++ X.drop (i + 1)) := by rw [hX, hY]; simp
  have hGR : w.grownBy ((w.drew.setRow g R1.toArray).drew.setRow g R2.toArray) (some g) := gr_set (gr_drew (gr_set (gr_drew (gr_self w _))))
  have fin : ∃ e4 a4' W3, (∀ w2 : World, Sem.run Try.prog (Instr.sliceAt 72 (.slice (some ⟨g, 0, none⟩) n cap) (some (.int .i64 t)) none none) w2 = .ok (.slice (some a4') (n - t) e4) w2) ∧
      (∀ ty, (Builtin.clear_ #[72] ty #[.slice (some a4') (n - t) e4]).run Try.prog ((w.drew.setRow g R1.toArray).drew.setRow g R2.toArray) = .ok (.tuple #[]) W3) ∧ Ins w W3 (.slice (some ⟨g, 0, none⟩) n cap) (.slice (some ⟨g, 0, none⟩) t cap) (l.take i ++ (ks ++ l.drop (i + 1))) := by
    by_cases h0 : m = 0
    · rw [h4 (by omega), show n - t = 1 by omega] at r4
      refine ⟨_, _, _, by rw [show n - t = 1 by omega]; exact r4, fun ty => by rw [show n - t = 1 by omega]; exact clear_row _ g t _ R2.toArray hg2 (by simp only [List.size_toArray, hR2l]; omega) ty, ?_, gr_set hGR, .inl rfl⟩
      refine ks_set _ g t cap _ _ _ hg2 hll (by omega) hcm (by simp only [List.length_append, List.length_take, List.length_drop, List.length_singleton, hR2l]; omega) ?_
      rw [List.append_assoc, List.take_append_of_le_length (by simp only [List.length_take, hR2l]; omega), List.take_take, Nat.min_self, hR2t, hpt]
    · rw [show n - t = 0 by omega] at r4
      refine ⟨_, _, _, by rw [show n - t = 0 by omega]; exact r4, fun ty => by rw [show n - t = 0 by omega]; exact clear_none _ _ _ ty, ?_, hGR, .inl rfl⟩
      exact ks_set _ g t cap _ _ _ hg1 hll (by omega) hcm hR2l (by rw [hR2t, hpt])
  obtain ⟨e4, a4', W3, r4', hcl, hI⟩ := fin
  refine (rep_walk w _ _ W3 g n cap i m d1 (t - i) t (n - t) _ _ e4 _ ((i + m : Nat) : Int) xa xc _ _ a4' _ _ _ r00 r0 r1 r2 r3 r5 r4' (by rw [IntKind.wrap_i64]; omega) (by rw [IntKind.wrap_i64]; omega) (by omega) (by omega) (by rw [beq_eq_false_iff_ne]; omega) (by rw [beq_eq_false_iff_ne]; omega) hc1 hc2 hcl).mono ?_
  rintro e w' ⟨rfl, rfl⟩
  exact ⟨_, rfl, hI⟩
/-- slices.Replace of one node by none or by one. -/
theorem replace_calls {w : World} {v x : Value} {l ks : List Nat} (hR : KsAt w v l) (hx : KsAt w x ks) (hk : ks.length ≤ 1) (hvx : x.ownBlock = none ∨ x.ownBlock ≠ v.ownBlock) {i : Nat} (hi : i < l.length) :
    Calls Try.prog 82 #[v, .int .i64 i, .int .i64 (i + 1), x] w fun e w' => ∃ v', e = .returned v' ∧ Ins w w' v v' (l.take i ++ (ks ++ l.drop (i + 1))) := by
  rcases hR.2 with ⟨rfl, hn⟩ | ⟨g, cap, cur, rfl, hg, hh, h1, h2, h3, h4⟩
  · omega
  · rw [Nat.mul_one] at h3 h4
    by_cases hie : i + 1 = l.length
    · have hd : l.drop (i + 1) = [] := List.drop_of_length_le (by omega)
      rw [hd, List.append_nil]
      match ks, hk, hx with
      | [], _, hx =>
        obtain ⟨xa, xc, rfl⟩ := hx.none_
        rw [List.append_nil]
        exact rep_end_none w g l.length cap l rfl cur hh h3 h4 h1 h2 i hie xa xc
      | [c], _, hx =>
        obtain ⟨k, kc, rfl, hc⟩ := hx.one_
        exact rep_end_one w g l.length cap l rfl cur hh h3 h4 h1 h2 i hie c k kc hc
    · refine rep_mid w g l.length cap l rfl cur hh h3 h4 h1 h2 i (by omega) x ks hx hk ?_
      rcases hvx with h | h
      · rw [h]; simp
      · exact h
end Go.Proofs.Ytnmncjeplfkdpaa.Pb
/- What a node less leaves in memory; skip. Conditions: the tree as it lies; at most one node below the one that goes. -/
namespace Go.Proofs.Ytnmncjeplfkdpaa.Pb
open Go.ChangeShapes Go.WideShapes Go.ChangeAt Go.RowKit
theorem filter_less : ∀ {l : List Nat} {x : Nat}, l.Nodup → x ∈ l → (l.filter (fun c => !decide (c = x))).length + 1 = l.length
  | [], _, _, h => by cases h
  | y :: r, x, hn, h => by
    obtain ⟨h1, h2⟩ := List.nodup_cons.1 hn
    by_cases hxy : y = x
    · subst hxy
      have e : r.filter (fun c => !decide (c = y)) = r := List.filter_eq_self.2 fun c hc => by
        have : c ≠ y := fun e => h1 (e ▸ hc)
        simp [this]
      rw [List.filter_cons_of_neg (by simp), e]
      rfl
    · have hr : x ∈ r := by
        rcases List.mem_cons.1 h with e | e
        · exact absurd e.symm hxy
        · exact e
      rw [List.filter_cons_of_pos (by simp [hxy]), List.length_cons, List.length_cons, filter_less h2 hr]
/-- What stands while node b's row and the count turn. -/
theorem skip_mem {w w2 w3 : World} {A : Nat} {t : Tr} {vs : Nat → Value} {m : Nat} (h : TObj w A t vs m) {b x : Nat} {l' : List Nat} {v' : Value} (hb : b ∈ t.B) (hx : x ∈ t.ks b)
    (h2 : Below w.heap.size w w2) (hI : Ins w2 w3 (vs b) v' l') (hok : Ok (t.skip b x l')) :
    TObj ((w3.setCell ⟨b, 3, none⟩ v').setCell ⟨A, 2, none⟩ (.int .i64 ((t.B.length : Int) - 1))) A (t.skip b x l') (fun c => if c = b then v' else vs c) m ∧
    Fr (own A t vs) w ((w3.setCell ⟨b, 3, none⟩ v').setCell ⟨A, 2, none⟩ (.int .i64 ((t.B.length : Int) - 1))) ∧
    (w3.cell? ⟨b, 3, none⟩ = some (vs b) ∧ w3.frozen? ⟨b, 3, none⟩ = false ∧ (w3.setCell ⟨b, 3, none⟩ v').cell? ⟨A, 2, none⟩ = some (.int .i64 t.B.length) ∧ (w3.setCell ⟨b, 3, none⟩ v').frozen? ⟨A, 2, none⟩ = false) ∧
    ∀ y, own A (t.skip b x l') (fun c => if c = b then v' else vs c) y → own A t vs y ∨ w.heap.size ≤ y := by
  have hAl : A < w.heap.size := h.lt (.inl rfl)
  have hBl : ∀ c ∈ t.B, c < w.heap.size := fun c hc => (h.tr.nod c hc).lt
  have hbl := hBl b hb
  have hbA : b ≠ A := fun e => h.na (e ▸ hb)
  obtain ⟨hxB, -, hbxn⟩ := h.ok.kin b hb x hx
  have hbx : b ≠ x := fun e => hbxn (by rw [e])
  have e3 : ∀ y, y < w2.heap.size → (vs b).ownBlock ≠ some y → w3.heap[y]? = w2.heap[y]? := fun y hy hn => hI.gr.block y hy (fun e => hn e.symm)
  have e13 : ∀ y, y < w.heap.size → (vs b).ownBlock ≠ some y → w3.heap[y]? = w.heap[y]? := fun y hy hn => (e3 y (by have := h2.size; omega) hn).trans (h2.block y hy)
  have n3 : ∀ c ∈ t.B, NdAt w3 c (t.tx c) (t.nm c) (vs c) := fun c hc => (h.tr.nod c hc).keep (e13 c (hBl c hc) (fun e => (ob_lt h hb e).2.1 hc))
  have A3 : w3.heap[A]? = w.heap[A]? := e13 A hAl (h.nr b hb)
  have d2 : w3.cell? ⟨A, 2, none⟩ = some (.int .i64 t.B.length) := (World.cell?_of_block (a := ⟨A, 2, none⟩) A3).trans h.c2
  have dA : (w3.setCell ⟨b, 3, none⟩ v').cell? ⟨A, 2, none⟩ = some (.int .i64 t.B.length) := (World.cell?_setCell_other _ _ _ _ (addr_ne (.inl hbA))).trans d2
  have fA : (w3.setCell ⟨b, 3, none⟩ v').frozen? ⟨A, 2, none⟩ = false := by rw [World.frozen?_setCell]; exact (World.frozen?_of_block (a := ⟨A, 2, none⟩) A3).trans (h.fz 2)
  obtain ⟨W, hW⟩ : ∃ W, W = (w3.setCell ⟨b, 3, none⟩ v').setCell ⟨A, 2, none⟩ (.int .i64 ((t.B.length : Int) - 1)) := ⟨_, rfl⟩
  have e5 : ∀ y, y ≠ b → y ≠ A → W.heap[y]? = w3.heap[y]? := fun y h1 h2 => by
    rw [hW]
    exact (Below.heap_setCell _ ⟨A, 2, none⟩ _ y h2).trans (Below.heap_setCell _ ⟨b, 3, none⟩ _ y h1)
  have b5 : NdAt W b (t.tx b) (t.nm b) v' := by rw [hW]; exact ((n3 b hb).setRow v').keep (Below.heap_setCell _ ⟨A, 2, none⟩ _ b hbA)
  have f5 : ∀ p, W.frozen? p = w3.frozen? p := fun p => by rw [hW, World.frozen?_setCell, World.frozen?_setCell]
  have A5 : ∀ j, j ≠ 2 → W.cell? ⟨A, j, none⟩ = w3.cell? ⟨A, j, none⟩ := fun j hj => by
    rw [hW, World.cell?_setCell_other _ _ _ _ (addr_ne (.inr (fun e => hj e.symm))), World.cell?_setCell_other _ _ _ _ (addr_ne (.inl hbA))]
  have A52 : W.cell? ⟨A, 2, none⟩ = some (.int .i64 ((t.B.length : Int) - 1)) := by
    rw [hW]
    exact World.cell?_setCell_same _ _ _ dA
  have vob : ∀ g, v'.ownBlock = some g → ((vs b).ownBlock = some g ∨ w2.heap.size ≤ g) := fun g hg => by
    rcases hI.ob with e | ⟨g', e, hl⟩
    · exact .inl (by rw [← e]; exact hg)
    · rw [hg] at e; injection e with e; exact .inr (by omega)
  have vne : ∀ g, v'.ownBlock = some g → g ≠ b ∧ g ≠ A ∧ g ∉ t.B := fun g hg => by
    rcases vob g hg with e | e
    · obtain ⟨k1, k2, k3⟩ := ob_lt h hb e
      exact ⟨fun e => k2 (e ▸ hb), k3, k2⟩
    · have := h2.size
      exact ⟨by omega, by omega, fun hg => by have := hBl g hg; omega⟩
  have row5 : KsAt W v' l' := hI.row.keep fun g hg => e5 g (vne g hg).1 (vne g hg).2.1
  have mem : ∀ c, c ∈ (t.skip b x l').B ↔ c ∈ t.B ∧ c ≠ x := fun c => by show c ∈ t.B.filter _ ↔ _; simp
  have hBlen : ((t.skip b x l').B.length : Int) = (t.B.length : Int) - 1 := by
    have := filter_less h.ok.nd hxB
    show ((t.B.filter (fun c => !decide (c = x))).length : Int) = _
    omega
  have vb : (fun c => if c = b then v' else vs c) b = v' := if_pos rfl
  have vo : ∀ c, c ≠ b → (fun c => if c = b then v' else vs c) c = vs c := fun c hcb => if_neg hcb
  rw [← hW]
  generalize (fun c => if c = b then v' else vs c) = vs' at *
  have tB : ∀ c, (t.skip b x l').tx c = t.tx c := fun c => rfl
  have mB : ∀ c, (t.skip b x l').nm c = t.nm c := fun c => rfl
  have kb : (t.skip b x l').ks b = l' := if_pos rfl
  have kB : ∀ c, c ≠ b → (t.skip b x l').ks c = t.ks c := fun c hcb => if_neg hcb
  have hrt : (t.skip b x l').rt = t.rt := rfl
  generalize t.skip b x l' = t' at *
  refine ⟨⟨⟨fun c hc0 => ?_, fun c hc0 => ?_, fun c hc0 d hd0 g hgc hgd => ?_, fun c hc0 g hg hm => ?_⟩, hok, ?_, ?_, ?_, fun j => ?_, ?_, fun c hc0 => ?_, fun c hc0 => ?_⟩, ?_, ⟨(n3 b hb).c3, (n3 b hb).fz 3, dA, fA⟩, ?_⟩
  · have hc := ((mem c).1 hc0).1
    rw [tB c, mB c]
    by_cases hcb : c = b
    · subst hcb; rw [vb]; exact b5
    · rw [vo c hcb]; exact (n3 c hc).keep (e5 c hcb (fun e => h.na (e ▸ hc)))
  · have hc := ((mem c).1 hc0).1
    by_cases hcb : c = b
    · subst hcb; rw [vb, kb]; exact row5
    · rw [vo c hcb, kB c hcb]
      refine (h.tr.row c hc).keep fun g hg => ?_
      obtain ⟨k1, k2, k3⟩ := ob_lt h hc hg
      exact (e5 g (fun e => k2 (e ▸ hb)) k3).trans (e13 g k1 (fun e => hcb (h.tr.rap c hc b hb g hg e)))
  · have hc := ((mem c).1 hc0).1
    have hd := ((mem d).1 hd0).1
    by_cases hcb : c = b <;> by_cases hdb : d = b
    · rw [hcb, hdb]
    · subst hcb
      rw [vb] at hgc; rw [vo d hdb] at hgd
      rcases vob g hgc with e | e
      · exact h.tr.rap c hc d hd g e hgd
      · have := (ob_lt h hd hgd).1; have := h2.size; omega
    · subst hdb
      rw [vb] at hgd; rw [vo c hcb] at hgc
      rcases vob g hgd with e | e
      · exact h.tr.rap c hc d hd g hgc e
      · have := (ob_lt h hc hgc).1; have := h2.size; omega
    · rw [vo c hcb] at hgc; rw [vo d hdb] at hgd
      exact h.tr.rap c hc d hd g hgc hgd
  · have hc := ((mem c).1 hc0).1
    have hm := ((mem g).1 hm).1
    by_cases hcb : c = b
    · subst hcb
      rw [vb] at hg
      exact (vne g hg).2.2 hm
    · rw [vo c hcb] at hg
      exact (ob_lt h hc hg).2.1 hm
  · rw [hrt]; exact (A5 0 (by decide)).trans ((World.cell?_of_block (a := ⟨A, 0, none⟩) A3).trans h.c0)
  · exact (A5 1 (by decide)).trans ((World.cell?_of_block (a := ⟨A, 1, none⟩) A3).trans h.c1)
  · rw [A52, hBlen]
  · rw [f5]; exact (World.frozen?_of_block (a := ⟨A, j, none⟩) A3).trans (h.fz j)
  · intro hA
    exact h.na ((mem A).1 hA).1
  · have hc := ((mem c).1 hc0).1
    intro e
    by_cases hcb : c = b
    · subst hcb; rw [vb] at e; exact (vne A e).2.1 rfl
    · rw [vo c hcb] at e; exact h.nr c hc e
  · rw [tB c]; exact h.ln c ((mem c).1 hc0).1
  · refine ⟨?_, ?_, ?_, ?_, fun y hy hn => ?_⟩
    · rw [hW]; exact hI.gr.os.trans h2.os
    · rw [hW]; exact hI.gr.tape.trans h2.tape
    · rw [hW]; exact hI.gr.output.trans h2.output
    · have e1 : W.heap.size = w3.heap.size := by rw [hW]; simp
      have := hI.gr.size; have := h2.size; omega
    · rw [e5 y (fun e => hn (.inr (.inl (e ▸ hb)))) (fun e => hn (.inl e))]
      exact e13 y hy (fun e => hn (.inr (.inr ⟨b, hb, e⟩)))
  · rintro y (e | e | ⟨c, hc0, e⟩)
    · exact .inl (.inl e)
    · exact .inl (.inr (.inl ((mem y).1 e).1))
    · have hc := ((mem c).1 hc0).1
      by_cases hcb : c = b
      · subst hcb
        rw [vb] at e
        rcases vob y e with e | e
        · exact .inl (.inr (.inr ⟨c, hc, e⟩))
        · exact .inr (by have := h2.size; omega)
      · rw [vo c hcb] at e
        exact .inl (.inr (.inr ⟨c, hc, e⟩))
end Go.Proofs.Ytnmncjeplfkdpaa.Pb
/- skip. Conditions: the tree as it lies; at most one node below the one that goes. -/
namespace Go.Proofs.Ytnmncjeplfkdpaa.Pb
open Go.ChangeShapes Go.WideShapes Go.ChangeAt Go.RowKit
set_option maxHeartbeats 8000000 in
set_option maxRecDepth 100000 in
theorem skip_calls {w : World} {A : Nat} {t : Tr} {vs : Nat → Value} {m : Nat} (h : TObj w A t vs m) {b x : Nat} (hb : b ∈ t.B) (hx : x ∈ t.ks b) (h1 : (t.ks x).length ≤ 1) :
    Calls Try.prog 53 #[.pointer (some ⟨b, 0, none⟩), .pointer (some ⟨x, 0, none⟩)] w fun e w' => e = .returned (.tuple #[]) ∧ ∃ l vs', (∃ L R, t.ks b = L ++ x :: R ∧ l = L ++ (t.ks x ++ R)) ∧ Ok (t.skip b x l) ∧
      w'.cell? ⟨A, 2, none⟩ = some (.int .i64 t.B.length) ∧ w'.frozen? ⟨A, 2, none⟩ = false ∧ TObj (w'.setCell ⟨A, 2, none⟩ (.int .i64 ((t.B.length : Int) - 1))) A (t.skip b x l) vs' m ∧
      Fr (own A t vs) w (w'.setCell ⟨A, 2, none⟩ (.int .i64 ((t.B.length : Int) - 1))) ∧ ∀ y, own A (t.skip b x l) vs' y → own A t vs y ∨ w.heap.size ≤ y := by
  obtain ⟨hxB, hbx, hbxn⟩ := h.ok.kin b hb x hx
  obtain ⟨y, hy⟩ := h.ok.kext hb hx
  obtain ⟨k, th, hF⟩ := fnd_ex _ (h.ok.nbs hb) y.toNat
  have hkle := h.ok.kle hb
  obtain ⟨rfl, hkl, hkx⟩ : th = true ∧ ∃ hk : k < (t.ks b).length, (t.ks b)[k] = x := by
    rcases hF.kid h.ok hb with ⟨-, hn⟩ | ⟨e, hk, hc⟩
    · exact absurd hy (hn x hx)
    · exact ⟨e, hk, h.ok.kone hb (List.getElem_mem hk) hx hc hy⟩
  have hD : Below w.heap.size w w.drew := (Below.refl _ _).drew
  have hps : (bs (t.tx b)).size = (t.tx b).length := bs_size _
  have hxk : (bs (t.tx b)).size < (bs (t.tx x)).size := by
    rw [bs_size, bs_size]
    have := hy.length_le
    rw [List.length_append] at this
    have : [y].length = 1 := rfl
    omega
  have hyk : ((bs (t.tx x))[(bs (t.tx b)).size]'hxk) = y := by
    rw [bs_get]
    obtain ⟨r, hr⟩ := hy
    have : (t.tx x)[(bs (t.tx b)).size]? = some y := by rw [← hr, hps]; simp
    rw [List.getElem?_eq_getElem (by rw [← bs_size (t.tx x)]; exact hxk)] at this
    exact Option.some.inj this
  have HFc := Lib.hid (find_calls (h.below hD).tr h.ok hb y.toNat k true hF (by omega))
  rw [← hyk] at HFc
  have hAC : t.ks b = (t.ks b).take k ++ x :: (t.ks b).drop (k + 1) := by
    rw [← hkx, ← List.drop_eq_getElem_cons hkl, List.take_append_drop]
  have hok := h.ok.skip hb hx hAC rfl h1
  have nb := h.tr.nod b hb
  have nx := h.tr.nod x hxB
  have b0 : w.cell? ⟨b, 0, none⟩ = some (.string (bs (t.tx b))) := nb.c0
  have x0 : w.cell? ⟨x, 0, none⟩ = some (.string (bs (t.tx x))) := nx.c0
  have hne : (vs x).ownBlock = none ∨ (vs x).ownBlock ≠ (vs b).ownBlock := by
    cases e : (vs x).ownBlock with
    | none => exact .inl rfl
    | some g => exact .inr fun e2 => hbxn (by rw [h.tr.rap x hxB b hb g e e2.symm])
  have HB3 := Lib.hid (fun w2 (hb2 : Below w.heap.size w w2) => (⟨(hb2.cell (p := ⟨b, 3, none⟩) nb.lt).trans nb.c3, (hb2.cell (p := ⟨x, 3, none⟩) nx.lt).trans nx.c3⟩ : w2.cell? ⟨b, 3, none⟩ = some (vs b) ∧ w2.cell? ⟨x, 3, none⟩ = some (vs x)))
  have HR := Lib.hid (fun w2 (hb2 : Below w.heap.size w w2) => replace_calls (w := w2) ((h.below hb2).tr.row b hb) ((h.below hb2).tr.row x hxB) h1 hne hkl)
  have HL := Lib.hid (fun w2 (hb2 : Below w.heap.size w w2) w3 v' (hi : Ins w2 w3 (vs b) v' _) => skip_mem h hb hx hb2 hi hok)
  have HOK := Lib.hid hok
  have HAC := Lib.hid hAC
  have hw1 : IntKind.i64.wrap ((k : Int) + 1) = (k : Int) + 1 := by rw [IntKind.wrap_i64]; omega
  have HD := Lib.hid hD
  clear h hF hy hyk hps hkle hbx hbxn hxB hne hD nb nx hok hAC hkx
  generalize hvb : vs b = v at *
  generalize hvx : vs x = v2 at *
  generalize hlL : (t.ks b).take k ++ (t.ks x ++ (t.ks b).drop (k + 1)) = l' at *
  have HLL := Lib.hid hlL
  have HVB := Lib.hid hvb
  have HVX := Lib.hid hvx
  clear hlL hvb hvx
  go_enter Try.func53, Try.ntmps53
  go_wp2_with fail
  go_region_with (go_at_call 77; refine HFc.out.mono ?_; rintro en w2 ⟨rfl, hb2⟩; have HB2 := Lib.hid (bstep HD.out hb2); clear hb2)
  all_goals
    have HB4 := Lib.hid (bstep HB2.out ((Below.refl _ w2).drew))
    obtain ⟨b3, x3⟩ := HB3.out _ HB4.out
    have HRc := Lib.hid (HR.out _ HB4.out)
    clear HR HB3 HFc b0 x0
    go_wp2_with fail
    go_region_with (go_at_call 82; refine HRc.out.mono ?_; rintro en w3 ⟨v', rfl, hi⟩; have HLc := Lib.hid (HL.out _ HB4.out _ _ hi); obtain ⟨a', cp', rfl, -, -, -⟩ := hi.row.slice; obtain ⟨c3, f3, -, -⟩ := HLc.out.2.2.1; clear hi)
    all_goals
      go_wp2_with fail
      go_end0
      obtain ⟨T5, F5, ⟨-, -, dA, fA⟩, O5⟩ := HLc.out
      exact ⟨rfl, l', _, ⟨_, _, HAC.out, HLL.out.symm⟩, HOK.out, dA, fA, T5, F5, O5⟩
end Go.Proofs.Ytnmncjeplfkdpaa.Pb
