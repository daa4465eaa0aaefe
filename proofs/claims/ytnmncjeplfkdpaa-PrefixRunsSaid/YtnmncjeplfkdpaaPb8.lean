/- strings.Clone, fork. Conditions: bounds. -/
import Derived.Test.YtnmncjeplfkdpaaPbB
import Derived.Lib.UnsafeStr
import Derived.Lib.BufferWrite
import Derived.Laws.MakeOwn
namespace Go.Proofs.Ytnmncjeplfkdpaa.Pb
open Go.ChangeShapes Go.WideShapes Go.ChangeAt Go.RowKit
theorem iU8 : (Try.prog.info? 5).map (fun i => (i.zero, i.size, i.bytes)) = some (some (.int .u8 0), 1, 1) := by kernel_rfl
set_option maxHeartbeats 4000000 in
set_option maxRecDepth 100000 in
/-- A text's copy: of what was there nothing has turned. -/
theorem clone_calls (w : World) (s : ByteArray) (hs : s.size ≤ 140737488351232) :
    Calls Try.prog 104 #[.string s] w fun e w' => e = .returned (.string s) ∧ Below w.heap.size w w' := by
  by_cases h0 : s.size = 0
  · have he : s = ⟨#[]⟩ := ByteArray.ext (Array.eq_empty_of_size_eq_zero h0)
    subst he
    go_enter Try.func104, Try.ntmps104
    go_wp2_with fail
    go_ret
    exact ⟨rfl, Below.refl _ _⟩
  · obtain ⟨i0, hi, hz0, hz1, hz2⟩ := info_parts iU8
    have hinfo : (Try.prog.info? 5).map (·.size) = some 1 := by rw [hi]; simp [hz1]
    have hco : Try.prog.cellsOf 5 = 1 := by simp [Program.cellsOf, hi, hz1]
    obtain ⟨M, hM⟩ : ∃ M, M = madeCells (Value.int .u8 0).cells (((s.size : Nat) : Int).toNat * i0.size) := ⟨_, rfl⟩
    have hMs : M.size = s.size := by rw [hM, size_madeCells, hz1]; simp
    have hmk : ∀ W : World, (Instr.makeSlice 143 (.int .i64 (s.size : Int)) (.int .i64 (s.size : Int))).run Try.prog W = .ok (.slice (some ⟨W.heap.size, 0, none⟩) s.size s.size) (W.alloc (.cells M 5)) := fun W => by
      have h := run_make (P := Try.prog) W 143 5 i0 (.int .u8 0) Try.underlying143 hi hz0 .i64 .i64 (s.size : Int) (s.size : Int) (by omega) (by omega) (by rw [hz2]; omega) (by omega)
      rw [← hM] at h
      simpa using h
    clear hM
    have hnew : (w.alloc (.cells M 5)).heap[w.heap.size]? = some (.cells M 5 (0, 0)) := (MapKept.heap_alloc w _).1
    have hcp := Lib.run_copy_row_string (P := Try.prog) (w.alloc (.cells M 5)) 143 9 3 5 w.heap.size 0 s.size s.size s M 5 Try.underlying143 hinfo hnew (Nat.le_refl _) (by omega)
    obtain ⟨Y, hY⟩ : ∃ Y, Y = (M.toList.take 0 ++ Lib.byteCells s.data.toList ++ M.toList.drop (0 + s.size)).toArray := ⟨_, rfl⟩
    rw [← hY] at hcp
    have hYl : Y.toList = Lib.byteCells s.data.toList := by
      rw [hY, List.toList_toArray, List.take_zero, List.nil_append, List.drop_of_length_le (by rw [Array.length_toList]; omega), List.append_nil]
    have hYs : Y.size = s.size := by rw [← Array.length_toList, hYl, Lib.byteCells_length, ← Lib.size_eq]
    have hgY : ((w.alloc (.cells M 5)).setRow w.heap.size Y).heap[w.heap.size]? = some (.cells Y 5 (0, 0)) := setRow_heap _ _ M _ 5 (0, 0) hnew
    have hne : s.data.toList ≠ [] := fun e => h0 (by rw [Lib.size_eq, e]; rfl)
    have hUS := Lib.run_unsafeString_row (P := Try.prog) ((w.alloc (.cells M 5)).setRow w.heap.size Y) 144 3 9 5 Try.underlying144 hco w.heap.size Y.size (by unfold World.shape?; rw [hgY]) s.data.toList hne (by rw [← Lib.size_eq]; omega) (by rw [← Lib.size_eq]; omega)
      (fun j x hx => Lib.cells_of_row hgY Y.size j _ (by rw [List.take_of_length_le (by rw [Array.length_toList]; exact Nat.le_refl _), hYl]; simp [Lib.byteCells, hx]))
    rw [← Lib.size_eq] at hUS
    clear hY
    have hsc : ¬ ((s.size : Int) = 0) := by omega
    go_enter Try.func104, Try.ntmps104
    go_wp2_with fail
    go_ret
    have hb2 : Below w.heap.size (w.alloc (.cells M 5)) ((w.alloc (.cells M 5)).setRow w.heap.size Y) := ⟨rfl, rfl, rfl, by simp, fun k hk => setRow_other _ _ _ _ (by omega)⟩
    exact ⟨rfl, Lib.below_freeze ((bbox (w := w) _).trans hb2) (p := ⟨w.heap.size, 0, none⟩) (Nat.le_refl _) _⟩
set_option maxHeartbeats 4000000 in
theorem sclone_calls (w : World) (s : ByteArray) (hs : s.size ≤ 140737488351232) :
    Calls Try.prog 98 #[.string s] w fun e w' => e = .returned (.string s) ∧ Below w.heap.size w w' := by
  have HC := Lib.hid (clone_calls w s hs)
  go_enter Try.func98, Try.ntmps98
  go_wp2_with fail
  refine HC.out.mono ?_; rintro en w1 ⟨rfl, hb⟩
  go_wp2_with fail
  go_ret
  exact ⟨rfl, hb⟩
/-- A new node with one below it, or none. -/
structure NewNd (w w' : World) (f : Nat) (p : T) (v : Value) (l : List Nat) : Prop where
  bel : Below w.heap.size w w'
  lo : w.heap.size ≤ f
  nod : NdAt w' f p none v
  row : KsAt w' v l
  ob : ∀ g, v.ownBlock = some g → w.heap.size ≤ g ∧ g ≠ f
theorem newNd_one (w : World) (c : Nat) (p : T) : NewNd w ((w.alloc (.cells #[ptr c] 71)).alloc (.cells #[.string (bs p), .bool false, .int .i64 0, .slice (some ⟨w.heap.size, 0, none⟩) 1 1] 74)) (w.heap.size + 1) p (.slice (some ⟨w.heap.size, 0, none⟩) 1 1) [c] := by
  have s1 : (w.alloc (.cells #[ptr c] 71)).heap.size = w.heap.size + 1 := by simp
  have g1 : (w.alloc (.cells #[ptr c] 71)).heap[w.heap.size]? = some (.cells #[ptr c] 71 (0, 0)) := (MapKept.heap_alloc w _).1
  have B1 := bbox (w := w) (.cells #[ptr c] 71)
  generalize w.alloc (.cells #[ptr c] 71) = W1 at *
  have B2 := bbox (w := W1) (.cells #[.string (bs p), .bool false, .int .i64 0, .slice (some ⟨w.heap.size, 0, none⟩) 1 1] 74)
  have c2 := fun j => World.cell?_alloc_new W1 #[.string (bs p), .bool false, .int .i64 0, .slice (some ⟨w.heap.size, 0, none⟩) 1 1] 74 j
  have f2 : ∀ j, (W1.alloc (.cells #[.string (bs p), .bool false, .int .i64 0, .slice (some ⟨w.heap.size, 0, none⟩) 1 1] 74)).frozen? ⟨W1.heap.size, j, none⟩ = false := fun j => by simp
  generalize W1.alloc (.cells #[.string (bs p), .bool false, .int .i64 0, .slice (some ⟨w.heap.size, 0, none⟩) 1 1] 74) = W2 at *
  rw [s1] at c2 f2
  refine ⟨bstep B1 B2, by omega, ⟨c2 0, c2 1, c2 2, c2 3, f2⟩, ⟨rfl, .inr ⟨w.heap.size, 1, #[ptr c], rfl, Nat.zero_le _, (B2.block _ (by omega)).trans g1, Nat.le_refl _, by unfold maxLen; exact by decide, rfl, rfl⟩⟩, fun g hg => ?_⟩
  have : w.heap.size = g := by
    have h : some w.heap.size = some g := hg
    injection h
  exact ⟨by omega, by omega⟩
theorem ext_bs (key : ByteArray) (n : Nat) : key.extract 0 n = bs (key.data.toList.take n) := by
  have h : (key.extract 0 n).data.toList = key.data.toList.take n := by rw [Lib.extract_data]; simp
  rw [← h, bs_data]
set_option maxHeartbeats 4000000 in
set_option maxRecDepth 100000 in
theorem fork_calls (w : World) (c : Nat) (key : ByteArray) (n : Nat) (hn : n ≤ key.size) (hK : key.size ≤ 140737488351232) :
    Calls Try.prog 80 #[.pointer (some ⟨c, 0, none⟩), .string key, .int .i64 n] w fun e w' => ∃ f v, e = .returned (.pointer (some ⟨f, 0, none⟩)) ∧ NewNd w w' f (key.data.toList.take n) v [c] := by
  rcases Nat.lt_or_eq_of_le hn with h | h
  · have hnc : (n : Int) < (key.size : Int) := by omega
    have HC := Lib.hid (sclone_calls w (key.extract 0 n) (by rw [ext_bs, bs_size, List.length_take]; omega))
    have HE := Lib.hid (ext_bs key n)
    have HD := Lib.hid (fun w2 => newNd_one w2 c (key.data.toList.take n))
    generalize key.data.toList.take n = p at *
    go_enter Try.func80, Try.ntmps80
    go_wp2_with fail
    refine HC.out.mono ?_; rintro en w2 ⟨rfl, hb⟩
    have HB := Lib.hid hb
    clear hb HC
    rw [HE.out]
    go_wp2_with fail
    go_ret
    have h := HD.out w2
    exact ⟨_, _, rfl, bstep HB.out h.bel, Nat.le_trans HB.out.size h.lo, h.nod, h.row, fun g hg => ⟨Nat.le_trans HB.out.size (h.ob g hg).1, (h.ob g hg).2⟩⟩
  · have hnc : ¬ (n : Int) < (key.size : Int) := by omega
    have HE : Hid (key = bs (key.data.toList.take n)) := Lib.hid (by rw [List.take_of_length_le (by rw [dlen]; omega), bs_data])
    have HD := Lib.hid (newNd_one w c (key.data.toList.take n))
    rw [← HE.out] at HD
    generalize key.data.toList.take n = p at *
    go_enter Try.func80, Try.ntmps80
    go_wp2_with fail
    go_ret
    first | exact ⟨_, _, rfl, HD.out⟩ | exact ⟨_, rfl, _, HD.out⟩
end Go.Proofs.Ytnmncjeplfkdpaa.Pb
