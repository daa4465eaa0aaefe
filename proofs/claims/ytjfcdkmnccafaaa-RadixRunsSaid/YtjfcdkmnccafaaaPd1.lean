/- slices.Replace of one node by none or by one: in place. Conditions: the rows as they lie, in blocks of their own. -/
import Derived.Test.YtjfcdkmnccafaaaPb7
import Derived.Deep.Upon
import Derived.Deep.QuietTactic
namespace Go.Proofs.Ytjfcdkmnccafaaa.Pb
open Go.ChangeShapes Go.WideShapes Go.ChangeAt Go.RowKit
/-- One element wiped. -/
theorem clear_row (w : World) (g o c : Nat) (cur : Array Value) (hg : w.heap[g]? = some (.cells cur 46 (0, 0))) (ho : o < cur.size) (ty : TypeId) :
    (Builtin.clear_ #[47] ty #[.slice (some ⟨g, o, none⟩) 1 c]).run Try.prog w = .ok (.tuple #[]) (w.setRow g (cur.toList.take o ++ [Value.pointer none] ++ cur.toList.drop (o + 1)).toArray) := by
  have hst := run_storeCells_at Try.prog g o 46 [Value.pointer none] 0 cur w hg (by show o + 0 + 1 ≤ cur.size; omega) (by intro v hv; rw [List.mem_singleton.1 hv]; rfl)
  simp only [Nat.add_zero, List.length_singleton] at hst
  have hz : (Builtin.zeroCells (Value.pointer none).cells 1).toList = [Value.pointer none] := by
    rw [show (Value.pointer none).cells = #[Value.pointer none] from rfl]
    simp [Builtin.zeroCells, Nat.mod_one]
  simp [Builtin.clear_, run_underlying Try.underlying47, hz, hst]
theorem clear_none (w : World) (a : Option Addr) (c : Nat) (ty : TypeId) : (Builtin.clear_ #[47] ty #[.slice a 0 c]).run Try.prog w = .ok (.tuple #[]) w := by
  cases a <;> simp [Builtin.clear_, run_underlying Try.underlying47]
theorem src_none (w : World) (size : Nat) (xa : Option Addr) (xc : Nat) : Src Try.prog size 47 (.slice xa 0 xc) 0 [] w := by
  cases xa with
  | none => exact Src.ofNil w Try.underlying47 xc
  | some a => exact Src.ofSlice w Try.underlying47 a 0 xc [] (by simp) (fun j u h => by cases h) (fun u h => by cases h)
/-- 's[i:i+1]', whatever it is. -/
theorem cutLH (g n cap i : Nat) (hi : i + 1 ≤ n) (hn : n ≤ cap) (w2 : World) : Sem.run Try.prog (Instr.sliceAt 47 (.slice (some ⟨g, 0, none⟩) n cap) (some (.int .i64 i)) (some (.int .i64 (i + 1))) none) w2 = .ok (.slice (some ⟨g, i, none⟩) 1 (cap - i)) w2 := by
  rw [run_sliceAt_slice (h := unN), run_slice_lh (ht := unN) (h0 := by omega) (h1 := by omega) (h2 := by omega), szN, run_szN]
  simp only [Result.andThen, sliced, Int.toNat_natCast, Nat.mul_one]
  rw [if_neg (by omega), show (((i : Int) + 1).toNat - i) = 1 by omega]
  simp [Addr.add_lit]
/-- A row of which the cells are others now. -/
theorem ks_set (W : World) (g m cap : Nat) (cur : Array Value) (R : List Value) (l' : List Nat) (hg : W.heap[g]? = some (.cells cur 46 (0, 0))) (hm : l'.length = m) (hmc : m ≤ cap) (hcm : cap ≤ maxLen) (hR : R.length = cap) (ht : R.take m = l'.map ptr) :
    KsAt (W.setRow g R.toArray) (.slice (some ⟨g, 0, none⟩) m cap) l' := by
  subst hm
  exact ⟨by simp, .inr ⟨g, cap, _, rfl, Nat.zero_le _, setRow_heap W g _ _ _ _ hg, hmc, hcm, by simp only [List.size_toArray, hR, Nat.mul_one], by rw [Nat.mul_one]; exact ht⟩⟩
theorem gr_set {w W : World} {g : Nat} {R : Array Value} (h : w.grownBy W (some g)) : w.grownBy (W.setRow g R) (some g) :=
  ⟨h.os, h.tape, h.output, by have := h.size; simpa [World.setRow] using this, fun k hk hkg => (setRow_other W g k _ (fun e => hkg (by rw [e]))).trans (h.block k hk hkg)⟩
theorem gr_drew {w W : World} {o : Option Nat} (h : w.grownBy W o) : w.grownBy W.drew o := ⟨h.os, h.tape, h.output, h.size, h.block⟩
theorem gr_self (w : World) (o : Option Nat) : w.grownBy w o := ⟨rfl, rfl, rfl, Nat.le_refl _, fun _ _ _ => rfl⟩
/-- A row of none: what lies there. -/
theorem KsAt.none_ {w : World} {v : Value} (h : KsAt w v []) : ∃ a c, v = .slice a 0 c := by
  obtain ⟨a, c, rfl, -⟩ := h.slice
  exact ⟨a, c, rfl⟩
theorem KsAt.one_ {w : World} {v : Value} {c : Nat} (h : KsAt w v [c]) : ∃ k kc, v = .slice (some ⟨k, 0, none⟩) 1 kc ∧ w.cell? ⟨k, 0, none⟩ = some (ptr c) := by
  obtain ⟨a, kc, rfl, -, -, hx⟩ := h.slice
  obtain ⟨k, rfl, -, hc⟩ := hx 0 (by simp)
  exact ⟨k, kc, rfl, hc⟩
set_option maxHeartbeats 4000000 in
set_option maxRecDepth 100000 in
/-- The last one goes. -/
theorem rep_end_none (w : World) (g n cap : Nat) (l : List Nat) (hn : l.length = n) (cur : Array Value) (hg : w.heap[g]? = some (.cells cur 46 (0, 0))) (hcs : cur.size = cap) (hcur : cur.toList.take n = l.map ptr) (hnc : n ≤ cap) (hcm : cap ≤ maxLen) (i : Nat) (hi : i + 1 = n) (xa : Option Addr) (xc : Nat) :
    Calls Try.prog 39 #[.slice (some ⟨g, 0, none⟩) n cap, .int .i64 i, .int .i64 (i + 1), .slice xa 0 xc] w fun e w' => ∃ v', e = .returned v' ∧ Ins w w' (.slice (some ⟨g, 0, none⟩) n cap) v' (l.take i) := by
  obtain ⟨i0, hi0, hz0, hz1, hz2⟩ := info_parts iNode
  have r00 := cutLH g n cap i (by omega) hnc
  have r0 := cutH g n cap i (by omega)
  obtain ⟨a1, r1, h1⟩ := cutL g n cap i (by omega) hnc
  rw [h1 (by omega), show n - i = 1 by omega] at r1
  have hap : ∀ ty, (Builtin.append_ #[47, 47] ty #[.slice (some ⟨g, 0, none⟩) i cap, .slice xa 0 xc]).run Try.prog w = .ok (.slice (some ⟨g, 0, none⟩) i cap) w := fun ty =>
    run_append_nothing w _ _ ty _ i0 Try.underlying47 hi0 _ i cap (by omega) _ (src_none w _ xa xc)
  have hcl := clear_row w g i (cap - i) cur hg (by omega)
  have HT : Hid (KsAt (w.setRow g (cur.toList.take i ++ [Value.pointer none] ++ cur.toList.drop (i + 1)).toArray) (.slice (some ⟨g, 0, none⟩) i cap) (l.take i)) := Lib.hid (ks_set w g i cap cur _ _ hg (by rw [List.length_take]; omega) (by omega) hcm
    (by simp only [List.length_append, List.length_take, List.length_drop, List.length_singleton, Array.length_toList]; omega)
    (by rw [List.append_assoc, List.take_append_of_le_length (by simp; omega), List.take_take, Nat.min_self, List.map_take, ← hcur, List.take_take, Nat.min_eq_left (by omega)]))
  have HG : Hid (w.grownBy (w.setRow g (cur.toList.take i ++ [Value.pointer none] ++ cur.toList.drop (i + 1)).toArray) (some g)) := Lib.hid (gr_set (gr_self w _))
  have hij : ((i : Int) == (i : Int) + 1) = false := by rw [beq_eq_false_iff_ne]; omega
  have hjn : ((i : Int) + 1 == (n : Int)) = true := by rw [beq_iff_eq]; omega
  have hin : (i : Int) < (n : Int) := by omega
  clear hg hcs hcur hcm h1 hi hn
  generalize w.setRow g (cur.toList.take i ++ [Value.pointer none] ++ cur.toList.drop (i + 1)).toArray = W2 at *
  go_enter Try.func39, Try.ntmps39
  go_wp2_with (first | (at_builtin; refine Lib.wpList_append_run _ rfl _ _ _ _ rfl _ _ rfl rfl _ _ (hap _) ?_) | simp only [hcl])
  go_ret
  exact ⟨_, rfl, HT.out, HG.out, .inl rfl⟩
set_option maxHeartbeats 4000000 in
set_option maxRecDepth 100000 in
/-- The last one gives way to another one. -/
theorem rep_end_one (w : World) (g n cap : Nat) (l : List Nat) (hn : l.length = n) (cur : Array Value) (hg : w.heap[g]? = some (.cells cur 46 (0, 0))) (hcs : cur.size = cap) (hcur : cur.toList.take n = l.map ptr) (hnc : n ≤ cap) (hcm : cap ≤ maxLen) (i : Nat) (hi : i + 1 = n) (c k kc : Nat) (hc : w.cell? ⟨k, 0, none⟩ = some (ptr c)) :
    Calls Try.prog 39 #[.slice (some ⟨g, 0, none⟩) n cap, .int .i64 i, .int .i64 (i + 1), .slice (some ⟨k, 0, none⟩) 1 kc] w fun e w' => ∃ v', e = .returned v' ∧ Ins w w' (.slice (some ⟨g, 0, none⟩) n cap) v' (l.take i ++ [c]) := by
  obtain ⟨i0, hi0, hz0, hz1, hz2⟩ := info_parts iNode
  have r00 := cutLH g n cap i (by omega) hnc
  have r0 := cutH g n cap i (by omega)
  have hap : ∀ ty, (Builtin.append_ #[47, 47] ty #[.slice (some ⟨g, 0, none⟩) i cap, .slice (some ⟨k, 0, none⟩) 1 kc]).run Try.prog w = .ok (.slice (some ⟨g, 0, none⟩) n cap) (w.setRow g (cur.toList.take i ++ [ptr c] ++ cur.toList.drop (i + 1)).toArray) := fun ty => by
    have h := run_append_room w _ ty _ i0 Try.underlying47 hi0 g i cap cur hg ⟨k, 0, none⟩ 1 kc [ptr c] (by rw [hz1]; rfl) (by intro j u hj; cases j with | zero => cases hj; exact hc | succ j => cases hj) (by intro u hu; rw [List.mem_singleton.1 hu]; rfl) (by omega) (by rw [hz1]; show i * 1 + 1 ≤ _; omega)
    rw [hz1, Nat.mul_one, hi] at h
    exact h
  have HT : Hid (KsAt (w.setRow g (cur.toList.take i ++ [ptr c] ++ cur.toList.drop (i + 1)).toArray) (.slice (some ⟨g, 0, none⟩) n cap) (l.take i ++ [c])) := Lib.hid (ks_set w g n cap cur _ _ hg (by simp; omega) (by omega) hcm
    (by simp only [List.length_append, List.length_take, List.length_drop, List.length_singleton, Array.length_toList]; omega)
    (by rw [List.take_append_of_le_length (by simp; omega), List.take_of_length_le (by simp; omega), List.map_append, List.map_take, ← hcur, List.take_take, Nat.min_eq_left (by omega)]; rfl))
  have HG : Hid (w.grownBy (w.setRow g (cur.toList.take i ++ [ptr c] ++ cur.toList.drop (i + 1)).toArray) (some g)) := Lib.hid (gr_set (gr_self w _))
  have hij : ((i : Int) == (i : Int) + 1) = false := by rw [beq_eq_false_iff_ne]; omega
  have hjn : ((i : Int) + 1 == (n : Int)) = true := by rw [beq_iff_eq]; omega
  clear hg hcs hcur hcm hi hn hc
  generalize w.setRow g (cur.toList.take i ++ [ptr c] ++ cur.toList.drop (i + 1)).toArray = W2 at *
  go_enter Try.func39, Try.ntmps39
  go_wp2_with (at_builtin; refine Lib.wpList_append_run _ rfl _ _ _ _ rfl _ _ rfl rfl _ _ (hap _) ?_)
  go_ret
  exact ⟨_, rfl, HT.out, HG.out, .inl rfl⟩
end Go.Proofs.Ytjfcdkmnccafaaa.Pb
