/- slices.Insert of one node into a row. Conditions: the row as it lies; the node in a block of its own. -/
import Derived.Test.YtnmncjeplfkdpaaPb5
import Derived.Maps.AppendAt
import Derived.Lib.AppendZerosOnto
import Derived.Lib.Overlaps
import Derived.Laws.CopyOwn
import Derived.Laws.Externs
import Derived.Shelf.Spec.SlicesInsert
namespace Go.Proofs.Ytnmncjeplfkdpaa.Pb
open Go.ChangeShapes Go.WideShapes Go.ChangeAt Go.RowKit
theorem iNode : (Try.prog.info? 71).map (fun i => (i.zero, i.size, i.bytes)) = some (some (.pointer none), 1, 8) := by kernel_rfl
/-- What one node more leaves of a row. -/
structure Ins (w w' : World) (v v' : Value) (l : List Nat) : Prop where
  row : KsAt w' v' l
  gr : w.grownBy w' v.ownBlock
  ob : v'.ownBlock = v.ownBlock ∨ ∃ g, v'.ownBlock = some g ∧ w.heap.size ≤ g
set_option maxHeartbeats 4000000 in
set_option maxRecDepth 100000 in
theorem insert_nil (w : World) (c bx : Nat) (hb : w.heap[bx]? = some (.cells #[ptr c] 71 (0, 0))) :
    Calls Try.prog 78 #[.slice none 0 0, .int .i64 0, .slice (some ⟨bx, 0, none⟩) 1 1] w fun e w' => ∃ v', e = .returned v' ∧ Ins w w' (.slice none 0 0) v' [c] := by
  obtain ⟨i0, hi, hz0, hz1, hz2⟩ := info_parts iNode
  have hc : w.cell? ⟨bx, 0, none⟩ = some (ptr c) := by simp [World.cell?, hb]
  go_enter Try.func78, Try.ntmps78
  go_wp2_with (at_builtin; refine wpList_append_own_at _ rfl _ _ 72 rfl 0 71 i0 (.pointer none) 1 8 Try.underlying72 hi hz0 hz1 hz2 rfl (by decide) (.slice none 0 0) 0 [] rfl (World.ownsRow_nil _ _ _ _) ⟨bx, 0, none⟩ 1 1 [ptr c] rfl rfl (by intro j u hj; cases j with | zero => cases hj; exact hc | succ j => cases hj) (by intro u hu; rw [List.mem_singleton.1 hu]; rfl) (by decide) (by decide) (Nat.zero_le _) ?_)
  intro v' w' hr hg _ ho
  go_wp2_with fail
  go_ret
  exact ⟨v', rfl, hr, hg, ho.imp id fun h => ⟨_, h, Nat.le_refl _⟩⟩
theorem szN : Try.prog.elem 72 = 71 := by kernel_rfl
theorem unN : Try.prog.underlying 72 = some (.slice (Try.prog.elem 72)) := by rw [szN]; exact Try.underlying72
theorem run_szN (w : World) : (sizeOf 71).run Try.prog w = .ok 1 w := by
  obtain ⟨i0, hi, hz0, hz1, hz2⟩ := info_parts iNode
  simp [sizeOf, typeInfo, hi, hz1]
/-- 's[i:]'. -/
theorem cutL (g n cap i : Nat) (hi : i ≤ n) (_hn : n ≤ cap) : ∃ a1, (∀ w2 : World, Sem.run Try.prog (Instr.sliceAt 72 (.slice (some ⟨g, 0, none⟩) n cap) (some (.int .i64 i)) none none) w2 = .ok (.slice (some a1) (n - i) (cap - i)) w2) ∧ (i < cap → a1 = ⟨g, i, none⟩) := by
  refine ⟨if cap = i then ⟨g, 0, none⟩ else ⟨g, i, none⟩, fun w2 => ?_, fun h => if_neg (by omega)⟩
  rw [run_sliceAt_slice (h := unN), run_slice_l (ht := unN) (h0 := by omega) (h1 := by omega), szN, run_szN]
  simp only [Result.andThen, sliced, Int.toNat_natCast, Nat.mul_one]
  split
  · rfl
  · simp [Addr.add_lit]
/-- 's[:h]'. -/
theorem cutH (g n cap h : Nat) (hh : h ≤ cap) (w2 : World) : Sem.run Try.prog (Instr.sliceAt 72 (.slice (some ⟨g, 0, none⟩) n cap) none (some (.int .i64 h)) none) w2 = .ok (.slice (some ⟨g, 0, none⟩) h cap) w2 := by
  rw [run_sliceAt_slice (h := unN), run_slice_h (ht := unN) (h0 := by omega) (h2 := by omega), szN, run_szN]
  simp only [Result.andThen, sliced, Int.toNat_natCast, Nat.sub_zero, Nat.zero_mul]
  split
  · rfl
  · simp [Addr.add_lit]
set_option maxHeartbeats 4000000 in
set_option maxRecDepth 100000 in
theorem insert_end (w : World) (g n cap : Nat) (l : List Nat) (hn : l.length = n) (hR : KsAt w (.slice (some ⟨g, 0, none⟩) n cap) l) (hnc : n ≤ cap) (hl : n ≤ 1000000) (c bx : Nat) (hb : w.heap[bx]? = some (.cells #[ptr c] 71 (0, 0))) :
    Calls Try.prog 78 #[.slice (some ⟨g, 0, none⟩) n cap, .int .i64 n, .slice (some ⟨bx, 0, none⟩) 1 1] w fun e w' => ∃ v', e = .returned v' ∧ Ins w w' (.slice (some ⟨g, 0, none⟩) n cap) v' (l ++ [c]) := by
  obtain ⟨i0, hi, hz0, hz1, hz2⟩ := info_parts iNode
  have hc : w.cell? ⟨bx, 0, none⟩ = some (ptr c) := by simp [World.cell?, hb]
  obtain ⟨a1, hcut, -⟩ := cutL g n cap n (Nat.le_refl _) hnc
  subst hn
  have HR := Lib.hid hR
  clear hR hb
  go_enter Try.func78, Try.ntmps78
  go_wp2_with (at_builtin; refine wpList_append_own_at _ rfl _ _ 72 rfl 0 71 i0 (.pointer none) 1 8 Try.underlying72 hi hz0 hz1 hz2 rfl (by decide) _ l.length (l.map ptr) rfl HR.out ⟨bx, 0, none⟩ 1 1 [ptr c] rfl rfl (by intro j u hj; cases j with | zero => cases hj; exact hc | succ j => cases hj) (by intro u hu; rw [List.mem_singleton.1 hu]; rfl) (by unfold maxLen; omega) (by omega) (Nat.zero_le _) ?_)
  intro v' w' hr hg _ ho
  go_wp2_with fail
  go_ret
  refine ⟨v', rfl, ?_, hg, ho.imp id fun h => ⟨_, h, Nat.le_refl _⟩⟩
  unfold KsAt
  rw [List.length_append, List.map_append]
  exact hr
end Go.Proofs.Ytnmncjeplfkdpaa.Pb
/- slices.Insert of one node: the elements behind it are moved, in place or into a new row; in one form. Conditions: the row as it lies; the node in a block of its own. -/
namespace Go.Proofs.Ytnmncjeplfkdpaa.Pb
open Go.ChangeShapes Go.WideShapes Go.ChangeAt Go.RowKit
theorem row_shift {α : Type} (cur X : List α) (n i : Nat) (z : α) (hX : cur.take n = X) (hn : n + 1 ≤ cur.length) (hi : i < n) :
    ((cur.take (i + 1) ++ X.drop i ++ cur.drop (i + 1 + (X.drop i).length)).take i ++ [z] ++ (cur.take (i + 1) ++ X.drop i ++ cur.drop (i + 1 + (X.drop i).length)).drop (i + 1)).take (n + 1) = X.take i ++ z :: X.drop i ∧
    ((cur.take (i + 1) ++ X.drop i ++ cur.drop (i + 1 + (X.drop i).length)).take i ++ [z] ++ (cur.take (i + 1) ++ X.drop i ++ cur.drop (i + 1 + (X.drop i).length)).drop (i + 1)).length = cur.length := by
  have hXl : X.length = n := by rw [← hX, List.length_take]; omega
  have l1 : (cur.take (i + 1)).length = i + 1 := by rw [List.length_take]; omega
  have e1 : (cur.take (i + 1) ++ X.drop i ++ cur.drop (i + 1 + (X.drop i).length)).take i = X.take i := by
    rw [List.append_assoc, List.take_append_of_le_length (by omega), List.take_take, ← hX, List.take_take, Nat.min_eq_left (by omega), Nat.min_eq_left (by omega)]
  have e2 : (cur.take (i + 1) ++ X.drop i ++ cur.drop (i + 1 + (X.drop i).length)).drop (i + 1) = X.drop i ++ cur.drop (i + 1 + (X.drop i).length) := by
    rw [List.append_assoc, List.drop_append_of_le_length (by omega), List.drop_of_length_le (by omega), List.nil_append]
  have l2 : (X.drop i).length = n - i := by rw [List.length_drop, hXl]
  rw [e1, e2]
  constructor
  · rw [show X.take i ++ [z] ++ (X.drop i ++ cur.drop (i + 1 + (X.drop i).length)) = (X.take i ++ z :: X.drop i) ++ cur.drop (i + 1 + (X.drop i).length) by simp]
    rw [List.take_append_of_le_length (by simp; omega), List.take_of_length_le (by simp; omega)]
  · simp only [List.length_append, List.length_take, List.length_drop, List.length_singleton, hXl]
    omega
set_option maxHeartbeats 4000000 in
set_option maxRecDepth 100000 in
theorem insert_shift (w : World) (g n cap : Nat) (l : List Nat) (hn : l.length = n) (cur : Array Value) (hg : w.heap[g]? = some (.cells cur 71 (0, 0))) (hcs : cur.size = cap) (hcur : cur.toList.take n = l.map ptr) (hnc : n + 1 ≤ cap) (hcm : cap ≤ maxLen) (i : Nat) (hi : i < n) (c bx : Nat) (hb : w.heap[bx]? = some (.cells #[ptr c] 71 (0, 0))) (hbg : bx ≠ g) :
    Calls Try.prog 78 #[.slice (some ⟨g, 0, none⟩) n cap, .int .i64 i, .slice (some ⟨bx, 0, none⟩) 1 1] w fun e w' => ∃ v', e = .returned v' ∧ Ins w w' (.slice (some ⟨g, 0, none⟩) n cap) v' (l.take i ++ c :: l.drop i) := by
  obtain ⟨i0, hi0, hz0, hz1, hz2⟩ := info_parts iNode
  have hsz : (Try.prog.info? 71).map (·.size) = some 1 := by rw [hi0]; simp [hz1]
  have hcm2 : cap ≤ 9223372036854775807 := by unfold maxLen at hcm; omega
  obtain ⟨d1, hd1⟩ : ∃ d, d = n - i := ⟨_, rfl⟩
  obtain ⟨d2, hd2⟩ : ∃ d, d = n + 1 - i := ⟨_, rfl⟩
  obtain ⟨e1, he1⟩ : ∃ d, d = cap - (i + 1) := ⟨_, rfl⟩
  obtain ⟨e2, he2⟩ : ∃ d, d = cap - i := ⟨_, rfl⟩
  obtain ⟨a0, r3, -⟩ := cutL g n cap i (by omega) (by omega)
  have r0 := cutH g n cap (n + 1) (by omega)
  obtain ⟨a1, r1, h1⟩ := cutL g (n + 1) cap (i + 1) (by omega) (by omega)
  obtain ⟨a2, r2, h2⟩ := cutL g (n + 1) cap i (by omega) (by omega)
  rw [h1 (by omega), show n + 1 - (i + 1) = d1 by omega, ← he1] at r1
  rw [h2 (by omega), ← hd2, ← he2] at r2
  rw [← hd1, ← he2] at r3
  have hs1 : ((i + 1 : Nat) : Int) = (i : Int) + 1 := by omega
  have hs2 : ((n + 1 : Nat) : Int) = (n : Int) + 1 := by omega
  rw [hs1] at r1
  rw [hs2] at r0
  have hov : (callFunc 96 #[.slice (some ⟨bx, 0, none⟩) 1 1, .slice (some ⟨g, i + 1, none⟩) d1 e1]).run Try.prog w = .ok (.value (.bool false)) w := by
    rw [run_callFunc_extern Try.func96 (by kernel_rfl) (by kernel_rfl) (by kernel_rfl) (e := Extern.SlicesOverlaps.overlaps #[72, 72] #[4]) (by kernel_rfl),
      Lib.run_overlaps_apart w 72 4 71 Try.underlying72 1 run_szN ⟨bx, 0, none⟩ ⟨g, i + 1, none⟩ 1 1 d1 e1 hbg 71 71 1 cap (by simp [World.shape?, hb]) (by simp [World.shape?, hg, hcs]) (by omega) (by simp [World.frozen?, hb]) (by simp [World.frozen?, hb])]
    rfl
  obtain ⟨X, hX⟩ : ∃ X, X = l.map ptr := ⟨_, rfl⟩
  rw [← hX] at hcur
  have hXl : X.length = n := by rw [hX, List.length_map, hn]
  have hX1 : ∀ v ∈ X, v.oneCell' = true := fun v hv => by
    rw [hX] at hv
    obtain ⟨y, -, rfl⟩ := List.mem_map.1 hv
    rfl
  have hdl : (X.drop i).length = n - i := by rw [List.length_drop, hXl]
  obtain ⟨hT, hTl⟩ := row_shift cur.toList X n i (ptr c) hcur (by rw [Array.length_toList]; omega) hi
  obtain ⟨R1, hR1⟩ : ∃ R1, R1 = cur.toList.take (i + 1) ++ X.drop i ++ cur.toList.drop (i + 1 + (X.drop i).length) := ⟨_, rfl⟩
  rw [← hR1] at hT hTl
  have hR1l : R1.length = cap := by
    rw [hR1]
    simp only [List.length_append, List.length_take, List.length_drop, Array.length_toList, hXl]
    omega
  have hcp1 : ∀ ty, (Builtin.copy_ #[72, 72] ty #[.slice (some ⟨g, i + 1, none⟩) d1 e1, .slice (some ⟨g, i, none⟩) d2 e2]).run Try.prog w.drew = .ok (goInt (X.drop i).length) (w.drew.setRow g R1.toArray) := fun ty => by
    rw [hR1]
    exact run_copy_row (P := Try.prog) w.drew _ _ ty 71 g (i + 1) d1 e1 ⟨g, i, none⟩ d2 e2 cur 71 (X.drop i) Try.underlying72 hsz hg (by rw [hdl]; show _ = min d2 d1; omega)
      (fun j v hj => by
        rw [Addr.add_lit]
        rw [List.getElem?_drop, ← hcur, List.getElem?_take] at hj
        split at hj
        · show World.cell? w _ = _
          simp only [World.cell?, hg]
          simpa using hj
        · cases hj)
      (by rw [hdl]; omega) (fun v hv => hX1 v (List.mem_of_mem_drop hv))
  obtain ⟨W1, hW1⟩ : ∃ W1, W1 = w.drew.setRow g R1.toArray := ⟨_, rfl⟩
  have hg1 : W1.heap[g]? = some (.cells R1.toArray 71 (0, 0)) := by rw [hW1]; exact setRow_heap w.drew g cur _ _ _ hg
  have ho1 : ∀ k, k ≠ g → W1.heap[k]? = w.heap[k]? := fun k hk => by rw [hW1]; exact setRow_other w.drew g k _ hk
  have HM1 : Hid (W1.os = w.os ∧ W1.tape = w.tape ∧ W1.output = w.output ∧ W1.heap.size = w.heap.size) := Lib.hid (by rw [hW1]; exact ⟨rfl, rfl, rfl, by show (w.drew.heap.modify _ _).size = _; rw [Array.size_modify]; rfl⟩)
  have hcp2 : ∀ ty, (Builtin.copy_ #[72, 72] ty #[.slice (some ⟨g, i, none⟩) d2 e2, .slice (some ⟨bx, 0, none⟩) 1 1]).run Try.prog W1 = .ok (goInt 1) (W1.setRow g (R1.take i ++ [ptr c] ++ R1.drop (i + 1)).toArray) := fun ty => by
    have := run_copy_row (P := Try.prog) W1 72 72 ty 71 g i d2 e2 ⟨bx, 0, none⟩ 1 1 R1.toArray 71 [ptr c] Try.underlying72 hsz hg1 (by show 1 = min 1 d2; omega)
      (fun j v hj => by
        cases j with
        | zero =>
          cases hj
          show W1.cell? ⟨bx, 0, none⟩ = _
          simp [World.cell?, ho1 bx hbg, hb]
        | succ j => cases hj)
      (by show i + 1 ≤ R1.toArray.size; simp only [List.size_toArray]; omega) (fun v hv => by rw [List.mem_singleton.1 hv]; rfl)
    simpa using this
  rw [← hW1] at hcp1
  have HT : Hid (KsAt (W1.setRow g (R1.take i ++ [ptr c] ++ R1.drop (i + 1)).toArray) (.slice (some ⟨g, 0, none⟩) (n + 1) cap) (l.take i ++ c :: l.drop i)) := Lib.hid (by
    have hll : (l.take i ++ c :: l.drop i).length = n + 1 := by simp; omega
    refine ⟨by simp, .inr ⟨g, cap, _, by rw [hll], Nat.zero_le _, setRow_heap W1 g _ _ _ _ hg1, by omega, hcm, by simp only [List.size_toArray, hTl, Array.length_toList]; omega, ?_⟩⟩
    rw [hll, Nat.mul_one]
    show List.take (n + 1) (R1.take i ++ [ptr c] ++ R1.drop (i + 1)) = _
    rw [hT, hX]
    simp)
  have HG : Hid (w.grownBy (W1.setRow g (R1.take i ++ [ptr c] ++ R1.drop (i + 1)).toArray) (some g)) := Lib.hid (by
    obtain ⟨m1, m2, m3, m4⟩ := HM1.out
    refine ⟨m1, m2, m3, by rw [← m4]; simp [World.setRow], fun k _ hk => ?_⟩
    have hkg : k ≠ g := fun e => hk (by rw [e])
    exact (setRow_other W1 g k _ hkg).trans (ho1 k hkg))
  have hw1 : IntKind.i64.wrap ((i : Int) + 1) = (i : Int) + 1 := by rw [IntKind.wrap_i64]; omega
  have hni : ((n : Int) + 1) ≤ (cap : Int) := by omega
  have hin : ¬ ((i : Int) = (n : Int)) := by omega
  have hin2 : ((i : Int) == (n : Int)) = false := by rw [beq_eq_false_iff_ne]; exact hin
  have hcn : ¬ (cap : Int) < (n : Int) + 1 := by omega
  clear hW1 hR1 hT hTl hcur hg1 ho1 hX hX1 hXl hdl hR1l hs1 hs2 h1 h2 hg hb hd1 hd2 he1 he2 HM1
  generalize (X.drop i).length = q1 at *
  generalize W1.setRow g (R1.take i ++ [ptr c] ++ R1.drop (i + 1)).toArray = W2 at *
  go_enter Try.func78, Try.ntmps78
  go_wp2_with (simp only [hov])
  go_region_law (refine step_copy_runI rfl _ _ 72 72 rfl _ _ (by simp [Act.eval, Act.put]) (by simp [Act.eval, Act.put]) (hcp1 _) ?_)
  go_wp2_with (at_builtin; refine wpList_copy_runI _ rfl _ _ 72 72 rfl _ _ rfl rfl (hcp2 _) ?_)
  go_ret
  exact ⟨_, rfl, HT.out, HG.out, .inl rfl⟩
theorem row_grow {α : Type} (X Z Y : List α) (n i : Nat) (z : α) (hX : X.length = n) (hZ : Z.length = n + 1 - i) (hi : i < n) :
    (((X.take i ++ Z ++ Y).take i ++ [z] ++ (X.take i ++ Z ++ Y).drop (i + 1)).take (i + 1) ++ X.drop i ++ ((X.take i ++ Z ++ Y).take i ++ [z] ++ (X.take i ++ Z ++ Y).drop (i + 1)).drop (i + 1 + (X.drop i).length)).take (n + 1) = X.take i ++ z :: X.drop i ∧
    (((X.take i ++ Z ++ Y).take i ++ [z] ++ (X.take i ++ Z ++ Y).drop (i + 1)).take (i + 1) ++ X.drop i ++ ((X.take i ++ Z ++ Y).take i ++ [z] ++ (X.take i ++ Z ++ Y).drop (i + 1)).drop (i + 1 + (X.drop i).length)).length = n + 1 + Y.length := by
  have l0 : (X.take i).length = i := by rw [List.length_take]; omega
  have e1 : (X.take i ++ Z ++ Y).take i = X.take i := by rw [List.append_assoc, List.take_append_of_le_length (by omega), List.take_of_length_le (by omega)]
  have l2 : (X.drop i).length = n - i := by rw [List.length_drop, hX]
  have e2 : (X.take i ++ [z] ++ (X.take i ++ Z ++ Y).drop (i + 1)).take (i + 1) = X.take i ++ [z] := by
    rw [List.take_append_of_le_length (by simp; omega), List.take_of_length_le (by simp; omega)]
  rw [e1, e2]
  constructor
  · rw [show X.take i ++ [z] ++ X.drop i = X.take i ++ z :: X.drop i by simp, List.take_append_of_le_length (by simp; omega), List.take_of_length_le (by simp; omega)]
  · simp only [List.length_append, List.length_take, List.length_drop, List.length_singleton, hX, hZ]
    omega
set_option maxHeartbeats 4000000 in
set_option maxRecDepth 100000 in
theorem insert_grow (w : World) (g n cap : Nat) (l : List Nat) (hn : l.length = n) (hl : n ≤ 1000000) (cur : Array Value) (hg : w.heap[g]? = some (.cells cur 71 (0, 0))) (_hcs : cur.size = cap) (hcur : cur.toList.take n = l.map ptr) (hnc : n ≤ cap) (hnc2 : cap < n + 1) (i : Nat) (hi : i < n) (c bx : Nat) (hb : w.heap[bx]? = some (.cells #[ptr c] 71 (0, 0))) :
    Calls Try.prog 78 #[.slice (some ⟨g, 0, none⟩) n cap, .int .i64 i, .slice (some ⟨bx, 0, none⟩) 1 1] w fun e w' => ∃ v', e = .returned v' ∧ Ins w w' (.slice (some ⟨g, 0, none⟩) n cap) v' (l.take i ++ c :: l.drop i) := by
  obtain ⟨i0, hi0, hz0, hz1, hz2⟩ := info_parts iNode
  have hsz : (Try.prog.info? 71).map (·.size) = some 1 := by rw [hi0]; simp [hz1]
  have hgl : g < w.heap.size := (Array.getElem?_eq_some_iff.1 hg).1
  have hbl : bx < w.heap.size := (Array.getElem?_eq_some_iff.1 hb).1
  obtain ⟨X, hX⟩ : ∃ X, X = l.map ptr := ⟨_, rfl⟩
  rw [← hX] at hcur
  have hXl : X.length = n := by rw [hX, List.length_map, hn]
  have hX1 : ∀ v ∈ X, v.oneCell' = true := fun v hv => by
    rw [hX] at hv
    obtain ⟨y, -, rfl⟩ := List.mem_map.1 hv
    rfl
  have hcell : ∀ (j : Nat) v, X[j]? = some v → w.cell? ⟨g, j, none⟩ = some v := fun j v hj => by
    rw [← hcur, List.getElem?_take] at hj
    split at hj
    · simp only [World.cell?, hg]
      simpa using hj
    · cases hj
  obtain ⟨G, hG⟩ : ∃ G, G = grownCap w (n + 1) cap 71 := ⟨_, rfl⟩
  have hGn : n + 1 ≤ G := by rw [hG]; exact grownCap_ge w _ _ _
  have hGm : G ≤ maxLen := by rw [hG]; exact grownCap_le_maxLen w (n + 1) cap 71 (by unfold maxLen; omega)
  have hGm2 : G ≤ 9223372036854775807 := by unfold maxLen at hGm; omega
  obtain ⟨Z, hZ⟩ : ∃ Z, Z = (Builtin.zeroCells (Value.pointer none).cells (n + 1 - i)).toList := ⟨_, rfl⟩
  obtain ⟨Y, hY⟩ : ∃ Y, Y = (Builtin.zeroCells (Value.pointer none).cells (G - (n + 1))).toList := ⟨_, rfl⟩
  have hZl : Z.length = n + 1 - i := by rw [hZ, Array.length_toList, size_zeroCells]; simp [Value.cells]
  have hYl : Y.length = G - (n + 1) := by rw [hY, Array.length_toList, size_zeroCells]; simp [Value.cells]
  have hold : (Builtin.firstCells i0.size i (.slice (some ⟨g, 0, none⟩) i cap)).run Try.prog w.drew = .ok (X.take i).toArray w.drew := by
    rw [hz1]
    exact run_firstCells_some w.drew 1 i ⟨g, 0, none⟩ i cap (X.take i) (by rw [List.length_take]; omega) (fun j v hj => by
      rw [Addr.add_lit, Nat.zero_add]
      rw [List.getElem?_take] at hj
      split at hj
      · exact hcell j v hj
      · cases hj)
  have hkk : (n : Int) + 1 - (i : Int) = ((n + 1 - i : Nat) : Int) := by omega
  have hrz : ∀ ty, (Builtin.append_ #[72, 3] ty #[.slice (some ⟨g, 0, none⟩) i cap, .int .i64 ((n : Int) + 1 - (i : Int))]).run Try.prog w =
      .ok (.slice (some ⟨w.heap.size, 0, none⟩) (n + 1) G) (w.drew.alloc (.cells (X.take i ++ Z ++ Y).toArray 71)) := fun ty => by
    have h := Lib.run_append_grow_zeros w 72 3 ty 71 i0 _ .i64 .i64 Try.underlying72 Try.underlying3 hi0 hz0 (some ⟨g, 0, none⟩) i cap (X.take i) hold (n + 1 - i) (by omega) (by omega) (by omega) (by omega) (by rw [hz2]; omega) (by rw [hz2, show i + (n + 1 - i) = n + 1 by omega]; exact growslice_fits (by omega) (by omega))
    rw [show i + (n + 1 - i) = n + 1 by omega, ← hG] at h
    have e : ∀ A B : Array Value, (X.take i).toArray ++ A ++ B = (X.take i ++ A.toList ++ B.toList).toArray := fun A B => by apply Array.ext'; simp
    rw [e, ← hZ, ← hY] at h
    rw [hkk, h]
  obtain ⟨N, hN⟩ : ∃ N, N = w.heap.size := ⟨_, rfl⟩
  obtain ⟨R0, hR0⟩ : ∃ R0, R0 = X.take i ++ Z ++ Y := ⟨_, rfl⟩
  obtain ⟨hT, hTl⟩ := row_grow X Z Y n i (ptr c) hXl hZl hi
  rw [← hR0] at hT hTl hrz
  have hR0l : R0.length = G := by rw [hR0]; simp only [List.length_append, List.length_take, hXl, hZl, hYl]; omega
  obtain ⟨W1, hW1⟩ : ∃ W1, W1 = w.drew.alloc (.cells R0.toArray 71) := ⟨_, rfl⟩
  rw [← hW1, ← hN] at hrz
  have hg1 : W1.heap[N]? = some (.cells R0.toArray 71 (0, 0)) := by rw [hW1, hN]; exact (MapKept.heap_alloc w.drew _).1
  have ho1 : ∀ k, k < N → W1.heap[k]? = w.heap[k]? := fun k hk => by rw [hW1]; exact (bbox (w := w.drew) _).block k (by rw [hN] at hk; exact hk)
  have HM1 : Hid (W1.os = w.os ∧ W1.tape = w.tape ∧ W1.output = w.output ∧ W1.heap.size = N + 1) := Lib.hid (by rw [hW1, hN]; exact ⟨rfl, rfl, rfl, by simp [World.size_alloc]⟩)
  obtain ⟨R1, hR1⟩ : ∃ R1, R1 = R0.take i ++ [ptr c] ++ R0.drop (i + 1) := ⟨_, rfl⟩
  rw [← hR1] at hT hTl
  have hR1l : R1.length = G := by rw [hR1]; simp only [List.length_append, List.length_take, List.length_drop, List.length_singleton, hR0l]; omega
  obtain ⟨d1, hd1⟩ : ∃ d, d = n - i := ⟨_, rfl⟩
  obtain ⟨d2, hd2⟩ : ∃ d, d = n + 1 - i := ⟨_, rfl⟩
  obtain ⟨e0, he0⟩ : ∃ d, d = cap - i := ⟨_, rfl⟩
  obtain ⟨e1, he1⟩ : ∃ d, d = G - (i + 1) := ⟨_, rfl⟩
  obtain ⟨e2, he2⟩ : ∃ d, d = G - i := ⟨_, rfl⟩
  obtain ⟨a0, r3, h3⟩ := cutL g n cap i (by omega) (by omega)
  have r0 := cutH g n cap i (by omega)
  obtain ⟨a1, r1, h1⟩ := cutL N (n + 1) G (i + 1) (by omega) (by omega)
  obtain ⟨a2, r2, h2⟩ := cutL N (n + 1) G i (by omega) (by omega)
  rw [h1 (by omega), show n + 1 - (i + 1) = d1 by omega, ← he1] at r1
  rw [h2 (by omega), ← hd2, ← he2] at r2
  rw [h3 (by omega), ← hd1, ← he0] at r3
  have hs1 : ((i + 1 : Nat) : Int) = (i : Int) + 1 := by omega
  rw [hs1] at r1
  have hdl : (X.drop i).length = n - i := by rw [List.length_drop, hXl]
  have hcpA : ∀ ty, (Builtin.copy_ #[72, 72] ty #[.slice (some ⟨N, i, none⟩) d2 e2, .slice (some ⟨bx, 0, none⟩) 1 1]).run Try.prog W1 = .ok (goInt 1) (W1.setRow N R1.toArray) := fun ty => by
    have := run_copy_row (P := Try.prog) W1 72 72 ty 71 N i d2 e2 ⟨bx, 0, none⟩ 1 1 R0.toArray 71 [ptr c] Try.underlying72 hsz hg1 (by show 1 = min 1 d2; omega)
      (fun j v hj => by
        cases j with
        | zero =>
          cases hj
          show W1.cell? ⟨bx, 0, none⟩ = _
          simp [World.cell?, ho1 bx (by omega), hb]
        | succ j => cases hj)
      (by show i + 1 ≤ R0.toArray.size; simp only [List.size_toArray]; omega) (fun v hv => by rw [List.mem_singleton.1 hv]; rfl)
    rw [hR1]
    simpa using this
  obtain ⟨W2, hW2⟩ : ∃ W2, W2 = W1.setRow N R1.toArray := ⟨_, rfl⟩
  have hg2 : W2.heap[N]? = some (.cells R1.toArray 71 (0, 0)) := by rw [hW2]; exact setRow_heap W1 N _ _ _ _ hg1
  have ho2 : ∀ k, k < N → W2.heap[k]? = w.heap[k]? := fun k hk => by rw [hW2]; exact (setRow_other W1 N k _ (by omega)).trans (ho1 k hk)
  have HM2 : Hid (W2.os = w.os ∧ W2.tape = w.tape ∧ W2.output = w.output ∧ W2.heap.size = N + 1) := Lib.hid (by
    obtain ⟨m1, m2, m3, m4⟩ := HM1.out
    rw [hW2]
    exact ⟨m1, m2, m3, by rw [← m4]; show (W1.heap.modify _ _).size = _; rw [Array.size_modify]⟩)
  rw [← hW2] at hcpA
  have hcpB : ∀ ty, (Builtin.copy_ #[72, 72] ty #[.slice (some ⟨N, i + 1, none⟩) d1 e1, .slice (some ⟨g, i, none⟩) d1 e0]).run Try.prog W2.drew = .ok (goInt (X.drop i).length) (W2.drew.setRow N (R1.take (i + 1) ++ X.drop i ++ R1.drop (i + 1 + (X.drop i).length)).toArray) := fun ty => by
    have := run_copy_row (P := Try.prog) W2.drew 72 72 ty 71 N (i + 1) d1 e1 ⟨g, i, none⟩ d1 e0 R1.toArray 71 (X.drop i) Try.underlying72 hsz hg2 (by rw [hdl]; show _ = min d1 d1; omega)
      (fun j v hj => by
        rw [Addr.add_lit]
        rw [List.getElem?_drop] at hj
        have hw := hcell (i + j) v hj
        show W2.cell? ⟨g, i + j, none⟩ = _
        rw [World.cell?_of_block (w := w) (w' := W2) (a := ⟨g, i + j, none⟩) (ho2 g (by omega))]
        exact hw)
      (by rw [hdl]; simp only [List.size_toArray]; omega) (fun v hv => hX1 v (List.mem_of_mem_drop hv))
    simpa using this
  obtain ⟨W3, hW3⟩ : ∃ W3, W3 = W2.drew.setRow N (R1.take (i + 1) ++ X.drop i ++ R1.drop (i + 1 + (X.drop i).length)).toArray := ⟨_, rfl⟩
  have hg3 : W3.heap[N]? = some (.cells (R1.take (i + 1) ++ X.drop i ++ R1.drop (i + 1 + (X.drop i).length)).toArray 71 (0, 0)) := by rw [hW3]; exact setRow_heap W2.drew N _ _ _ _ hg2
  have HT : Hid (KsAt W3 (.slice (some ⟨N, 0, none⟩) (n + 1) G) (l.take i ++ c :: l.drop i)) := Lib.hid (by
    have hll : (l.take i ++ c :: l.drop i).length = n + 1 := by simp; omega
    refine ⟨by simp, .inr ⟨N, G, _, by rw [hll], Nat.zero_le _, hg3, by omega, hGm, by simp only [List.size_toArray, hTl, hYl]; omega, ?_⟩⟩
    rw [hll, Nat.mul_one]
    show List.take (n + 1) (R1.take (i + 1) ++ X.drop i ++ R1.drop (i + 1 + (X.drop i).length)) = _
    rw [hT, hX]
    simp)
  have HG : Hid (w.grownBy W3 (some g)) := Lib.hid (by
    obtain ⟨m1, m2, m3, m4⟩ := HM2.out
    rw [hW3]
    refine ⟨m1, m2, m3, ?_, fun k hk _ => (setRow_other W2.drew N k _ (by omega)).trans (ho2 k (by omega))⟩
    show _ ≤ (W2.drew.heap.modify _ _).size
    rw [Array.size_modify]
    show _ ≤ W2.heap.size
    omega)
  rw [← hW3] at hcpB
  have HN : Hid (w.heap.size ≤ N) := Lib.hid (by omega)
  have hw1 : IntKind.i64.wrap ((i : Int) + 1) = (i : Int) + 1 := by rw [IntKind.wrap_i64]; omega
  have hin2 : ((i : Int) == (n : Int)) = false := by rw [beq_eq_false_iff_ne]; omega
  have hcn : (cap : Int) < (n : Int) + 1 := by omega
  clear hW1 hW2 hW3 hR1 hR0 hT hTl hcur hg1 hg2 hg3 ho1 ho2 hX hX1 hXl hdl hR1l hR0l hs1 h1 h2 h3 hg hb hd1 hd2 he1 he2 he0 HM1 HM2 hcell hold hkk hZ hY hZl hYl hG hN hgl hbl
  generalize (X.drop i).length = q1 at *
  go_enter Try.func78, Try.ntmps78
  go_wp2_with (first
    | (at_builtin; refine Lib.wpList_append_run _ rfl _ _ _ _ rfl _ _ rfl rfl _ _ (hrz _) ?_)
    | (at_builtin; refine wpList_copy_runI _ rfl _ _ 72 72 rfl _ _ rfl rfl (hcpA _) ?_))
  go_region_law (refine step_copy_runI rfl _ _ 72 72 rfl _ _ (by simp [Act.eval, Act.put]) (by simp [Act.eval, Act.put]) (hcpB _) ?_)
  go_wp2_with fail
  go_ret
  exact ⟨_, rfl, HT.out, HG.out, .inr ⟨N, rfl, HN.out⟩⟩
/-- slices.Insert of one node, wherever. -/
theorem insert_calls {w : World} {v : Value} {l : List Nat} (hR : KsAt w v l) (hl : l.length ≤ 1000000) {i : Nat} (hi : i ≤ l.length) (c bx : Nat) (hb : w.heap[bx]? = some (.cells #[ptr c] 71 (0, 0))) (hbv : v.ownBlock ≠ some bx) :
    Calls Try.prog 78 #[v, .int .i64 i, .slice (some ⟨bx, 0, none⟩) 1 1] w fun e w' => ∃ v', e = .returned v' ∧ Ins w w' v v' (l.take i ++ c :: l.drop i) := by
  have hR' := hR
  rcases hR.2 with ⟨rfl, hn⟩ | ⟨g, cap, cur, rfl, hg, hh, h1, h2, h3, h4⟩
  · obtain rfl : l = [] := List.eq_nil_of_length_eq_zero hn
    obtain rfl : i = 0 := by simpa using hi
    exact insert_nil w c bx hb
  · rw [Nat.mul_one] at h3 h4
    by_cases hie : i = l.length
    · subst hie
      rw [List.take_length, List.drop_length]
      exact insert_end w g l.length cap l rfl hR' h1 hl c bx hb
    · by_cases hc : l.length + 1 ≤ cap
      · exact insert_shift w g l.length cap l rfl cur hh h3 h4 hc h2 i (by omega) c bx hb (fun e => hbv (by rw [e]; rfl))
      · exact insert_grow w g l.length cap l rfl hl cur hh h3 h4 h1 (by omega) i (by omega) c bx hb
end Go.Proofs.Ytnmncjeplfkdpaa.Pb
