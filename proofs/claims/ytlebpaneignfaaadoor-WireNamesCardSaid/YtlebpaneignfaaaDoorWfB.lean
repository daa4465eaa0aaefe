/- wire.downOf at any value that can be. Conditions: what start-up lays; bounds. -/
import Derived.Test.YtlebpaneignfaaaDoorWfA
import Derived.Test.YtlebpaneignfaaaDoorWa3
import Derived.Lib.IndexMore
namespace Go.Proofs.YtlebpaneignfaaaDoor
set_option linter.unusedVariables false
set_option linter.unusedSimpArgs false
open Go.ChangeShapes Go.WideShapes Go.ChangeAt Go.RowKit
theorem repK_len (a b : UInt8) : ∀ (k : Nat) (s : List UInt8), (Lib.replaceK [a] [b] k s).length ≤ s.length
  | 0, s => Nat.le_refl _
  | k + 1, s => by
    unfold Lib.replaceK
    split
    · exact Nat.le_refl _
    · rename_i h
      have h1 := Lib.index_ge s [a]
      have h2 : Lib.index s [a] ≠ -1 := fun e => h (by rw [e]; rfl)
      have h3 := Lib.index_room s [a] (by omega)
      have h4 := repK_len a b k (s.drop ((Lib.index s [a]).toNat + [a].length))
      have e1 : [a].length = 1 := rfl
      have e2 : [b].length = 1 := rfl
      rw [e1] at h3 h4
      rw [List.length_drop] at h4
      rw [List.length_append, List.length_append, List.length_take, e1, e2]
      omega
theorem repA_len (a b : UInt8) (s : List UInt8) : (Lib.replaceAll s [a] [b]).length ≤ s.length := by
  unfold Lib.replaceAll Lib.replace
  split
  · exact Nat.le_refl _
  · exact repK_len _ _ _ _
theorem wbox (w : World) (o : Obj) : Below w.heap.size w (w.alloc o) := (Below.refl _ _).alloc (Nat.le_refl _) o
theorem box_room (w : World) : Room (w.alloc (.cells #[.int .i64 0, .string ⟨#[]⟩, .int .i64 0, .float .f64 0, .bool false, .slice none 0 0] 26)) w.heap.size 6 :=
  ⟨by simp, fun p hp => by
    rw [World.cell?_alloc_new]
    match p, hp with
    | 0, _ => rfl
    | 1, _ => rfl
    | 2, _ => rfl
    | 3, _ => rfl
    | 4, _ => rfl
    | 5, _ => rfl, fun p => by simp⟩
theorem lies_leaf (S : Nat → Prop) (w : World) (k : Int) (t : ByteArray) (z : Int) (K : Nat → Val) (hk : -9223372036854775808 ≤ k ∧ k ≤ 9223372036854775807) (ht : t.size ≤ 281474976710656) (hz : -9223372036854775808 ≤ z ∧ z ≤ 9223372036854775807) : Lies S w (.mk k t z 0 false none 0 0 K) :=
  ⟨⟨hk.1, hk.2, ht, hz.1, hz.2, by decide, Nat.le_refl _, by omega, by omega⟩, fun h => absurd h (Nat.lt_irrefl _), fun i h => absurd h (Nat.not_lt_zero _)⟩
theorem at_other {w : World} {g o b p : Nat} {y : Val} (h : At w g o y) (hne : b ≠ g) (v : Value) : At (w.setCell ⟨b, p, none⟩ v) g o y := h.keep fun q => soth fun e => hne (by injection e)
theorem put6_apart {w : World} {g o b p : Nat} {y : Val} (h : At w g o y) (hne : b ≠ g) (v0 v1 v2 v3 v4 v5 : Value) : At (put6 w b p v0 v1 v2 v3 v4 v5) g o y :=
  at_other (at_other (at_other (at_other (at_other (at_other h hne v0) hne v1) hne v2) hne v3) hne v4) hne v5
/-- The answer's box at last. -/
theorem down_leaf {w w3 : World} {x : Val} {k : Int} {t : ByteArray} {z : Int} {K : Nat → Val} (hb : Below w.heap.size w w3) (hd : Dn x (.mk k t z 0 false none 0 0 K)) (hk : -9223372036854775808 ≤ k ∧ k ≤ 9223372036854775807) (ht : t.size ≤ 281474976710656) (hz : -9223372036854775808 ≤ z ∧ z ≤ 9223372036854775807) :
    Downed w x (.returned (.agg #[.int .i64 k, .string t, .int .i64 z, .float .f64 0, .bool false, .slice none 0 0])) (put6 w3 w.heap.size 0 (.int .i64 k) (.string t) (.int .i64 z) (.float .f64 0) (.bool false) (.slice none 0 0)) :=
  ⟨.mk k t z 0 false none 0 0 K, rfl, hd, lies_leaf _ _ _ _ _ _ hk ht hz, put6_below hb (Nat.le_refl _) _ _ _ _ _ _ _⟩
theorem bytes_size (l : List UInt8) : (⟨l.toArray⟩ : ByteArray).size = l.length := List.size_toArray
theorem textOf_len (r : Nat) : ∃ B : Nat, (textOf r).length ≤ B := ⟨_, Nat.le_refl _⟩
set_option maxHeartbeats 8000000 in
set_option maxRecDepth 100000 in
theorem down_real (w : World) (b o : Nat) (t : ByteArray) (z : Int) (r : Nat) (f : Bool) (a : Option Addr) (c n : Nat) (K : Nat → Val) (hc : WCtx w) (hm : MaxW w) (hb : b < w.heap.size) (ha : At w b o (.mk 7 t z r f a c n K)) (hr : r < 18446744073709551616) (ht : t.size ≤ 4096) (htx : (textOf r).length ≤ 1000) :
    Calls Tryd.prog 9 #[.pointer (some ⟨b, o, none⟩)] w (Downed w (.mk 7 t z r f a c n K)) := by
  obtain ⟨x0, x1, x2, x3, x4, x5⟩ := ha.below (wbox w (.cells #[.int .i64 0, .string ⟨#[]⟩, .int .i64 0, .float .f64 0, .bool false, .slice none 0 0] 26)) hb
  have HB := Lib.hid (wbox w (.cells #[.int .i64 0, .string ⟨#[]⟩, .int .i64 0, .float .f64 0, .bool false, .slice none 0 0] 26))
  have HT := Lib.hid (fun W (h : Below w.heap.size w W) => textOf_calls r hr W (hc.below h).toTCtx)
  clear ha hc hm
  go_enter Tryd.func9, Tryd.ntmps9
  go_wp2_with fail
  refine (HT.out _ HB.out).mono ?_; rintro en w2 ⟨rfl, hb2⟩
  have HQ2 := Lib.hid hb2
  clear hb2
  go_wp2_with fail
  refine (bulk_calls _ _).mono ?_; rintro en w3 ⟨rfl, hb3⟩
  have HQ := Lib.hid (bstep HQ2.out hb3)
  clear hb3
  have hR := (box_room w).below HQ.out
  obtain ⟨u0, g0⟩ := Option.isSome_iff_exists.1 (hR.cell 0 (by omega))
  obtain ⟨u1, g1⟩ := Option.isSome_iff_exists.1 (hR.cell 1 (by omega))
  obtain ⟨u2, g2⟩ := Option.isSome_iff_exists.1 (hR.cell 2 (by omega))
  obtain ⟨u3, g3⟩ := Option.isSome_iff_exists.1 (hR.cell 3 (by omega))
  obtain ⟨u4, g4⟩ := Option.isSome_iff_exists.1 (hR.cell 4 (by omega))
  obtain ⟨u5, g5⟩ := Option.isSome_iff_exists.1 (hR.cell 5 (by omega))
  have f0 := hR.fz 0
  have f1 := hR.fz 1
  have f2 := hR.fz 2
  have f3 := hR.fz 3
  have f4 := hR.fz 4
  have f5 := hR.fz 5
  clear hR
  go_wp2_with fail
  exact bodyPost_ret (v := .agg #[.int .i64 4, .string ⟨(textOf r).toArray⟩, .int .i64 0, .float .f64 0, .bool false, .slice none 0 0]) (by simp [results, Tryd.results9, go_sem, g0, g1, g2, g3, g4, g5]) rfl
    (down_leaf (K := K) (bstep HB.out HQ.out) (by unfold Dn; simp [Leaf]) (by omega) (by rw [bytes_size]; omega) (by omega))
set_option maxHeartbeats 8000000 in
set_option maxRecDepth 100000 in
theorem down_big (w : World) (b o : Nat) (t : ByteArray) (z : Int) (r : Nat) (f : Bool) (a : Option Addr) (c n : Nat) (K : Nat → Val) (hc : WCtx w) (hm : MaxW w) (hb : b < w.heap.size) (ha : At w b o (.mk 9 t z r f a c n K)) (hr : r < 18446744073709551616) (ht : t.size ≤ 4096) (htx : (textOf r).length ≤ 1000) :
    Calls Tryd.prog 9 #[.pointer (some ⟨b, o, none⟩)] w (Downed w (.mk 9 t z r f a c n K)) := by
  obtain ⟨x0, x1, x2, x3, x4, x5⟩ := ha.below (wbox w (.cells #[.int .i64 0, .string ⟨#[]⟩, .int .i64 0, .float .f64 0, .bool false, .slice none 0 0] 26)) hb
  have HB := Lib.hid (wbox w (.cells #[.int .i64 0, .string ⟨#[]⟩, .int .i64 0, .float .f64 0, .bool false, .slice none 0 0] 26))
  skip
  clear ha hc hm
  go_enter Tryd.func9, Tryd.ntmps9
  go_wp2_with fail
  refine (bulk_calls _ _).mono ?_; rintro en w3 ⟨rfl, hb3⟩
  have HQ := Lib.hid hb3
  clear hb3
  have hR := (box_room w).below HQ.out
  obtain ⟨u0, g0⟩ := Option.isSome_iff_exists.1 (hR.cell 0 (by omega))
  obtain ⟨u1, g1⟩ := Option.isSome_iff_exists.1 (hR.cell 1 (by omega))
  obtain ⟨u2, g2⟩ := Option.isSome_iff_exists.1 (hR.cell 2 (by omega))
  obtain ⟨u3, g3⟩ := Option.isSome_iff_exists.1 (hR.cell 3 (by omega))
  obtain ⟨u4, g4⟩ := Option.isSome_iff_exists.1 (hR.cell 4 (by omega))
  obtain ⟨u5, g5⟩ := Option.isSome_iff_exists.1 (hR.cell 5 (by omega))
  have f0 := hR.fz 0
  have f1 := hR.fz 1
  have f2 := hR.fz 2
  have f3 := hR.fz 3
  have f4 := hR.fz 4
  have f5 := hR.fz 5
  clear hR
  go_wp2_with fail
  exact bodyPost_ret (v := .agg #[.int .i64 4, .string t, .int .i64 0, .float .f64 0, .bool false, .slice none 0 0]) (by simp [results, Tryd.results9, go_sem, g0, g1, g2, g3, g4, g5]) rfl
    (down_leaf (K := K) (bstep HB.out HQ.out) (by unfold Dn; simp [Leaf]) (by omega) (by omega) (by omega))
set_option maxHeartbeats 8000000 in
set_option maxRecDepth 100000 in
theorem down_blob (w : World) (b o : Nat) (t : ByteArray) (z : Int) (r : Nat) (f : Bool) (a : Option Addr) (c n : Nat) (K : Nat → Val) (hc : WCtx w) (hm : MaxW w) (hb : b < w.heap.size) (ha : At w b o (.mk 10 t z r f a c n K)) (hr : r < 18446744073709551616) (ht : t.size ≤ 4096) (htx : (textOf r).length ≤ 1000) :
    Calls Tryd.prog 9 #[.pointer (some ⟨b, o, none⟩)] w (Downed w (.mk 10 t z r f a c n K)) := by
  obtain ⟨x0, x1, x2, x3, x4, x5⟩ := ha.below (wbox w (.cells #[.int .i64 0, .string ⟨#[]⟩, .int .i64 0, .float .f64 0, .bool false, .slice none 0 0] 26)) hb
  have HB := Lib.hid (wbox w (.cells #[.int .i64 0, .string ⟨#[]⟩, .int .i64 0, .float .f64 0, .bool false, .slice none 0 0] 26))
  have hz2 := repA_len 13 32 t.data.toList
  have hz3 := repA_len 10 32 (Lib.replaceAll t.data.toList [13] [32])
  have htl : t.data.toList.length = t.size := Array.length_toList
  have hol : (oneL t.data.toList).length ≤ 4096 := by unfold oneL; omega
  have HT := Lib.hid (fun W (h : Below w.heap.size w W) => oneLine_calls W (hm.below h) t (by omega) (by omega))
  clear ha hc hm
  go_enter Tryd.func9, Tryd.ntmps9
  go_wp2_with fail
  refine (HT.out _ HB.out).mono ?_; rintro en w3 ⟨rfl, hb3⟩
  have HQ := Lib.hid hb3
  clear hb3
  have hR := (box_room w).below HQ.out
  obtain ⟨u0, g0⟩ := Option.isSome_iff_exists.1 (hR.cell 0 (by omega))
  obtain ⟨u1, g1⟩ := Option.isSome_iff_exists.1 (hR.cell 1 (by omega))
  obtain ⟨u2, g2⟩ := Option.isSome_iff_exists.1 (hR.cell 2 (by omega))
  obtain ⟨u3, g3⟩ := Option.isSome_iff_exists.1 (hR.cell 3 (by omega))
  obtain ⟨u4, g4⟩ := Option.isSome_iff_exists.1 (hR.cell 4 (by omega))
  obtain ⟨u5, g5⟩ := Option.isSome_iff_exists.1 (hR.cell 5 (by omega))
  have f0 := hR.fz 0
  have f1 := hR.fz 1
  have f2 := hR.fz 2
  have f3 := hR.fz 3
  have f4 := hR.fz 4
  have f5 := hR.fz 5
  clear hR
  go_wp2_with fail
  exact bodyPost_ret (v := .agg #[.int .i64 2, .string ⟨(oneL t.data.toList).toArray⟩, .int .i64 0, .float .f64 0, .bool false, .slice none 0 0]) (by simp [results, Tryd.results9, go_sem, g0, g1, g2, g3, g4, g5]) rfl
    (down_leaf (K := K) (bstep HB.out HQ.out) (by unfold Dn; simp [Leaf]) (by omega) (by rw [bytes_size]; omega) (by omega))
end Go.Proofs.YtlebpaneignfaaaDoor
/- wire.downOf of a flag. Conditions: bounds. -/
namespace Go.Proofs.YtlebpaneignfaaaDoor
set_option linter.unusedVariables false
set_option linter.unusedSimpArgs false
open Go.ChangeShapes Go.WideShapes Go.ChangeAt Go.RowKit
set_option maxHeartbeats 8000000 in
set_option maxRecDepth 100000 in
theorem down_flag_true (w : World) (b o : Nat) (t : ByteArray) (z : Int) (r : Nat) (a : Option Addr) (c n : Nat) (K : Nat → Val) (hc : WCtx w) (hm : MaxW w) (hb : b < w.heap.size) (ha : At w b o (.mk 8 t z r true a c n K)) (hr : r < 18446744073709551616) (ht : t.size ≤ 4096) (htx : (textOf r).length ≤ 1000) :
    Calls Tryd.prog 9 #[.pointer (some ⟨b, o, none⟩)] w (Downed w (.mk 8 t z r true a c n K)) := by
  obtain ⟨x0, x1, x2, x3, x4, x5⟩ := ha.below (wbox w (.cells #[.int .i64 0, .string ⟨#[]⟩, .int .i64 0, .float .f64 0, .bool false, .slice none 0 0] 26)) hb
  have HB := Lib.hid (wbox w (.cells #[.int .i64 0, .string ⟨#[]⟩, .int .i64 0, .float .f64 0, .bool false, .slice none 0 0] 26))
  have HT : Hid (∀ W, Calls Tryd.prog 19 #[.bool true] W fun e w' => e = .returned (.int .i64 1) ∧ W = w') := Lib.hid (fun W => flagNumber_calls W true)
  clear ha hc hm
  go_enter Tryd.func9, Tryd.ntmps9
  go_wp2_with fail
  refine (HT.out _).mono ?_; rintro en w3 ⟨rfl, hw3⟩
  have HQ : Hid (Below (w.alloc (.cells #[.int .i64 0, .string ⟨#[]⟩, .int .i64 0, .float .f64 0, .bool false, .slice none 0 0] 26)).heap.size (w.alloc (.cells #[.int .i64 0, .string ⟨#[]⟩, .int .i64 0, .float .f64 0, .bool false, .slice none 0 0] 26)) w3) := Lib.hid (by rw [← hw3]; exact Below.refl _ _)
  clear hw3
  have hR := (box_room w).below HQ.out
  obtain ⟨u0, g0⟩ := Option.isSome_iff_exists.1 (hR.cell 0 (by omega))
  obtain ⟨u1, g1⟩ := Option.isSome_iff_exists.1 (hR.cell 1 (by omega))
  obtain ⟨u2, g2⟩ := Option.isSome_iff_exists.1 (hR.cell 2 (by omega))
  obtain ⟨u3, g3⟩ := Option.isSome_iff_exists.1 (hR.cell 3 (by omega))
  obtain ⟨u4, g4⟩ := Option.isSome_iff_exists.1 (hR.cell 4 (by omega))
  obtain ⟨u5, g5⟩ := Option.isSome_iff_exists.1 (hR.cell 5 (by omega))
  have f0 := hR.fz 0
  have f1 := hR.fz 1
  have f2 := hR.fz 2
  have f3 := hR.fz 3
  have f4 := hR.fz 4
  have f5 := hR.fz 5
  clear hR
  go_wp2_with fail
  exact bodyPost_ret (v := .agg #[.int .i64 3, .string ⟨#[]⟩, .int .i64 1, .float .f64 0, .bool false, .slice none 0 0]) (by simp [results, Tryd.results9, go_sem, g0, g1, g2, g3, g4, g5]) rfl
    (down_leaf (K := K) (bstep HB.out HQ.out) (by unfold Dn; simp [Leaf]) (by omega) (by decide) (by omega))
set_option maxHeartbeats 8000000 in
set_option maxRecDepth 100000 in
theorem down_flag_false (w : World) (b o : Nat) (t : ByteArray) (z : Int) (r : Nat) (a : Option Addr) (c n : Nat) (K : Nat → Val) (hc : WCtx w) (hm : MaxW w) (hb : b < w.heap.size) (ha : At w b o (.mk 8 t z r false a c n K)) (hr : r < 18446744073709551616) (ht : t.size ≤ 4096) (htx : (textOf r).length ≤ 1000) :
    Calls Tryd.prog 9 #[.pointer (some ⟨b, o, none⟩)] w (Downed w (.mk 8 t z r false a c n K)) := by
  obtain ⟨x0, x1, x2, x3, x4, x5⟩ := ha.below (wbox w (.cells #[.int .i64 0, .string ⟨#[]⟩, .int .i64 0, .float .f64 0, .bool false, .slice none 0 0] 26)) hb
  have HB := Lib.hid (wbox w (.cells #[.int .i64 0, .string ⟨#[]⟩, .int .i64 0, .float .f64 0, .bool false, .slice none 0 0] 26))
  have HT : Hid (∀ W, Calls Tryd.prog 19 #[.bool false] W fun e w' => e = .returned (.int .i64 0) ∧ W = w') := Lib.hid (fun W => flagNumber_calls W false)
  clear ha hc hm
  go_enter Tryd.func9, Tryd.ntmps9
  go_wp2_with fail
  refine (HT.out _).mono ?_; rintro en w3 ⟨rfl, hw3⟩
  have HQ : Hid (Below (w.alloc (.cells #[.int .i64 0, .string ⟨#[]⟩, .int .i64 0, .float .f64 0, .bool false, .slice none 0 0] 26)).heap.size (w.alloc (.cells #[.int .i64 0, .string ⟨#[]⟩, .int .i64 0, .float .f64 0, .bool false, .slice none 0 0] 26)) w3) := Lib.hid (by rw [← hw3]; exact Below.refl _ _)
  clear hw3
  have hR := (box_room w).below HQ.out
  obtain ⟨u0, g0⟩ := Option.isSome_iff_exists.1 (hR.cell 0 (by omega))
  obtain ⟨u1, g1⟩ := Option.isSome_iff_exists.1 (hR.cell 1 (by omega))
  obtain ⟨u2, g2⟩ := Option.isSome_iff_exists.1 (hR.cell 2 (by omega))
  obtain ⟨u3, g3⟩ := Option.isSome_iff_exists.1 (hR.cell 3 (by omega))
  obtain ⟨u4, g4⟩ := Option.isSome_iff_exists.1 (hR.cell 4 (by omega))
  obtain ⟨u5, g5⟩ := Option.isSome_iff_exists.1 (hR.cell 5 (by omega))
  have f0 := hR.fz 0
  have f1 := hR.fz 1
  have f2 := hR.fz 2
  have f3 := hR.fz 3
  have f4 := hR.fz 4
  have f5 := hR.fz 5
  clear hR
  go_wp2_with fail
  exact bodyPost_ret (v := .agg #[.int .i64 3, .string ⟨#[]⟩, .int .i64 0, .float .f64 0, .bool false, .slice none 0 0]) (by simp [results, Tryd.results9, go_sem, g0, g1, g2, g3, g4, g5]) rfl
    (down_leaf (K := K) (bstep HB.out HQ.out) (by unfold Dn; simp [Leaf]) (by omega) (by decide) (by omega))
end Go.Proofs.YtlebpaneignfaaaDoor
/- wire.downOf of what has a list. Conditions: bounds. -/
namespace Go.Proofs.YtlebpaneignfaaaDoor
set_option linter.unusedVariables false
set_option linter.unusedSimpArgs false
open Go.ChangeShapes Go.WideShapes Go.ChangeAt Go.RowKit
/-- A list as it lies in new memory, from B on. -/
structure NewL (B : Nat) (w : World) (a : Option Addr) (c n : Nat) (K K' : Nat → Val) : Prop where
  le : n ≤ c
  cap : c ≤ 9223372036854775807
  at_ : 0 < n → ∃ g, a = some ⟨g, 0, none⟩ ∧ B ≤ g ∧ g < w.heap.size
  each : ∀ i, i < n → Dn (K i) (K' i) ∧ (∀ g, a = some ⟨g, 0, none⟩ → At w g (i * 6) (K' i)) ∧ Lies (fun q => B ≤ q ∧ q < w.heap.size) w (K' i)
theorem NewL.set {B : Nat} {w : World} {a : Option Addr} {c n : Nat} {K K' : Nat → Val} (h : NewL B w a c n K K') {b : Nat} (hb : b < B) (p : Nat) (v : Value) : NewL B (w.setCell ⟨b, p, none⟩ v) a c n K K' := by
  refine ⟨h.le, h.cap, fun hn => ?_, fun i hi => ?_⟩
  · rw [World.size_setCell]; exact h.at_ hn
  · obtain ⟨d1, d2, d3⟩ := h.each i hi
    obtain ⟨g, e, hg, -⟩ := h.at_ (by omega)
    rw [World.size_setCell]
    refine ⟨d1, fun g' e' => ?_, d3.set (fun q hq => by omega) _ _⟩
    rw [e] at e'
    cases e'
    exact at_other (d2 g e) (by omega) _
theorem NewL.put {B : Nat} {w : World} {a : Option Addr} {c n : Nat} {K K' : Nat → Val} (h : NewL B w a c n K K') {b : Nat} (hb : b < B) (p : Nat) (v0 v1 v2 v3 v4 v5 : Value) : NewL B (put6 w b p v0 v1 v2 v3 v4 v5) a c n K K' := (((((h.set hb _ v0).set hb _ v1).set hb _ v2).set hb _ v3).set hb _ v4).set hb _ v5
theorem NewL.lies {B : Nat} {w : World} {a : Option Addr} {c n : Nat} {K K' : Nat → Val} (h : NewL B w a c n K K') {A : Nat} (hA : A ≤ B) {k : Int} {t : ByteArray} {z : Int} {r : Nat} {f : Bool} (hk : -9223372036854775808 ≤ k ∧ k ≤ 9223372036854775807) (ht : t.size ≤ 281474976710656) (hz : -9223372036854775808 ≤ z ∧ z ≤ 9223372036854775807) (hr : r < 18446744073709551616) (hn : n * 72 ≤ 281474976710656) :
    Lies (fun q => A ≤ q ∧ q < w.heap.size) w (.mk k t z r f a c n K') := by
  refine ⟨⟨hk.1, hk.2, ht, hz.1, hz.2, hr, h.le, h.cap, hn⟩, fun h0 => ?_, fun i hi => ?_⟩
  · obtain ⟨g, e, h1, h2⟩ := h.at_ h0
    exact ⟨g, 0, e, by omega, h2⟩
  · obtain ⟨d1, d2, d3⟩ := h.each i hi
    obtain ⟨g, e, h1, h2⟩ := h.at_ (by omega)
    refine ⟨fun b o e' => ?_, d3.wide fun q hq => ⟨by omega, hq.2⟩⟩
    rw [e] at e'
    cases e'
    rw [Nat.zero_add]
    exact d2 g e
theorem down_many {w w3 : World} {x : Val} {B : Nat} {k : Int} {t : ByteArray} {z : Int} {r : Nat} {f : Bool} {a : Option Addr} {c n : Nat} {K K' : Nat → Val} (hb : Below w.heap.size w w3) (hB : w.heap.size < B) (h : NewL B w3 a c n K K') (hd : (∀ i, i < n → Dn (K i) (K' i)) → Dn x (.mk k t z r f a c n K'))
    (hk : -9223372036854775808 ≤ k ∧ k ≤ 9223372036854775807) (ht : t.size ≤ 281474976710656) (hz : -9223372036854775808 ≤ z ∧ z ≤ 9223372036854775807) (hr : r < 18446744073709551616) (hn : n * 72 ≤ 281474976710656) :
    Downed w x (.returned (.agg #[.int .i64 k, .string t, .int .i64 z, .float .f64 r, .bool f, .slice a n c])) (put6 w3 w.heap.size 0 (.int .i64 k) (.string t) (.int .i64 z) (.float .f64 r) (.bool f) (.slice a n c)) :=
  ⟨.mk k t z r f a c n K', rfl, hd fun i hi => (h.each i hi).1, (h.put hB _ _ _ _ _ _ _).lies (Nat.le_of_lt hB) hk ht hz hr hn, put6_below hb (Nat.le_refl _) _ _ _ _ _ _ _⟩
/-- What is said of each in a list. -/
def Each (w : World) (a : Option Addr) (n : Nat) (K : Nat → Val) : Prop := ∀ i, i < n → ∀ W, Below w.heap.size w W → ∀ b o, a = some ⟨b, o, none⟩ → Calls Tryd.prog 9 #[.pointer (some ⟨b, o + i * 6, none⟩)] W (Downed W (K i))
theorem all_new (w W : World) (h : Below w.heap.size w W) (a : Option Addr) (c n : Nat) (K : Nat → Val) (hnc : n ≤ c) (hc : c ≤ 9223372036854775807) (hn : n * 72 ≤ 281474976710656) (hadr : 0 < n → ∃ b o, a = some ⟨b, o, none⟩) (hE : Each w a n K) :
    Calls Tryd.prog 21 #[.slice a n c] W fun e w' => ∃ (a' : Option Addr) (c' : Nat), e = .returned (.slice a' n c') ∧ (∃ K', NewL W.heap.size w' a' c' n K K') ∧ Below W.heap.size W w' := by
  refine (downAll_calls W a n c K hnc hc hn hadr fun i hi W' h' => hE i hi W' (bstep h h')).mono ?_
  rintro e w' ⟨a', c', rfl, h1, h2, h3, ⟨K', h4⟩, hb⟩
  exact ⟨a', c', rfl, ⟨K', h1, h2, h3, h4⟩, hb⟩
set_option maxHeartbeats 8000000 in
set_option maxRecDepth 100000 in
theorem down_list (w : World) (b o : Nat) (k : Int) (t : ByteArray) (z : Int) (r : Nat) (f : Bool) (a : Option Addr) (c n : Nat) (K : Nat → Val) (hk : k = 12 ∨ k = 13 ∨ k = 14) (hb : b < w.heap.size) (ha : At w b o (.mk k t z r f a c n K)) (hnc : n ≤ c) (hc : c ≤ 9223372036854775807) (hn : n * 72 ≤ 281474976710656) (hadr : 0 < n → ∃ b o, a = some ⟨b, o, none⟩) (hE : Each w a n K) :
    Calls Tryd.prog 9 #[.pointer (some ⟨b, o, none⟩)] w (Downed w (.mk k t z r f a c n K)) := by
  obtain ⟨x0, x1, x2, x3, x4, x5⟩ := ha.below (wbox w (.cells #[.int .i64 0, .string ⟨#[]⟩, .int .i64 0, .float .f64 0, .bool false, .slice none 0 0] 26)) hb
  have HB := Lib.hid (wbox w (.cells #[.int .i64 0, .string ⟨#[]⟩, .int .i64 0, .float .f64 0, .bool false, .slice none 0 0] 26))
  have HA := Lib.hid (all_new w _ (wbox w (.cells #[.int .i64 0, .string ⟨#[]⟩, .int .i64 0, .float .f64 0, .bool false, .slice none 0 0] 26)) a c n K hnc hc hn hadr hE)
  have HS : Hid ((w.alloc (.cells #[.int .i64 0, .string ⟨#[]⟩, .int .i64 0, .float .f64 0, .bool false, .slice none 0 0] 26)).heap.size = w.heap.size + 1) := Lib.hid (by simp)
  clear ha hE hadr
  rcases hk with rfl | rfl | rfl
  all_goals
    go_enter Tryd.func9, Tryd.ntmps9
    go_wp2_with fail
    refine HA.out.mono ?_; rintro en w3 ⟨a', c', rfl, ⟨K', hN⟩, hb3⟩
    have HQ := Lib.hid hb3
    have HN := Lib.hid hN
    clear hb3 hN
    have hR := (box_room w).below HQ.out
    obtain ⟨u0, g0⟩ := Option.isSome_iff_exists.1 (hR.cell 0 (by omega))
    obtain ⟨u1, g1⟩ := Option.isSome_iff_exists.1 (hR.cell 1 (by omega))
    obtain ⟨u2, g2⟩ := Option.isSome_iff_exists.1 (hR.cell 2 (by omega))
    obtain ⟨u3, g3⟩ := Option.isSome_iff_exists.1 (hR.cell 3 (by omega))
    obtain ⟨u4, g4⟩ := Option.isSome_iff_exists.1 (hR.cell 4 (by omega))
    obtain ⟨u5, g5⟩ := Option.isSome_iff_exists.1 (hR.cell 5 (by omega))
    have f0 := hR.fz 0
    have f1 := hR.fz 1
    have f2 := hR.fz 2
    have f3 := hR.fz 3
    have f4 := hR.fz 4
    have f5 := hR.fz 5
    clear hR
    go_wp2_with fail
    exact bodyPost_ret (v := .agg #[.int .i64 5, .string ⟨#[]⟩, .int .i64 0, .float .f64 0, .bool false, .slice a' n c']) (by simp [results, Tryd.results9, go_sem, g0, g1, g2, g3, g4, g5]) rfl
      (down_many (bstep HB.out HQ.out) (by rw [HS.out]; omega) HN.out (fun hd => by unfold Dn; simp; exact ⟨a', c', K', ⟨rfl, rfl, rfl⟩, hd⟩) (by omega) (by decide) (by omega) (by omega) hn)
end Go.Proofs.YtlebpaneignfaaaDoor
/- wire.downOf of what stays as it is but for its list. Conditions: bounds. -/
namespace Go.Proofs.YtlebpaneignfaaaDoor
set_option linter.unusedVariables false
set_option linter.unusedSimpArgs false
open Go.ChangeShapes Go.WideShapes Go.ChangeAt Go.RowKit
set_option maxHeartbeats 8000000 in
set_option maxRecDepth 100000 in
theorem down_same (w : World) (b o : Nat) (k : Int) (t : ByteArray) (z : Int) (r : Nat) (f : Bool) (a : Option Addr) (c n : Nat) (K : Nat → Val) (hk : k ≠ 7 ∧ k ≠ 8 ∧ k ≠ 9 ∧ k ≠ 10 ∧ k ≠ 11 ∧ k ≠ 12 ∧ k ≠ 13 ∧ k ≠ 14) (hkb : -9223372036854775808 ≤ k ∧ k ≤ 9223372036854775807) (ht : t.size ≤ 4096) (hz : -9223372036854775808 ≤ z ∧ z ≤ 9223372036854775807) (hr : r < 18446744073709551616) (hb : b < w.heap.size) (ha : At w b o (.mk k t z r f a c n K)) (hnc : n ≤ c) (hc : c ≤ 9223372036854775807) (hn : n * 72 ≤ 281474976710656) (hadr : 0 < n → ∃ b o, a = some ⟨b, o, none⟩) (hE : Each w a n K) :
    Calls Tryd.prog 9 #[.pointer (some ⟨b, o, none⟩)] w (Downed w (.mk k t z r f a c n K)) := by
  obtain ⟨x0, x1, x2, x3, x4, x5⟩ := ha.below (wbox w (.cells #[.int .i64 0, .string ⟨#[]⟩, .int .i64 0, .float .f64 0, .bool false, .slice none 0 0] 26)) hb
  obtain ⟨w1, hw1⟩ : ∃ w1, w1 = (w.alloc (.cells #[.int .i64 0, .string ⟨#[]⟩, .int .i64 0, .float .f64 0, .bool false, .slice none 0 0] 26)) := ⟨_, rfl⟩
  have HW1 := Lib.hid hw1
  have hb1 : Below w.heap.size w w1 := by rw [hw1]; exact wbox w (.cells #[.int .i64 0, .string ⟨#[]⟩, .int .i64 0, .float .f64 0, .bool false, .slice none 0 0] 26)
  have hs1 : w1.heap.size = w.heap.size + 1 := by rw [hw1]; simp
  have HY : Hid (∀ O, At (w1.alloc O) b o (.mk k t z r f a c n K)) := Lib.hid (fun O => (ha.below hb1 hb).below (wbox w1 O) (by omega))
  have HX : Hid (∀ O, Below w.heap.size w (w1.alloc O) ∧ (w1.alloc O).heap.size = w.heap.size + 2) := Lib.hid (fun O => ⟨bstep hb1 (wbox w1 O), by simp [hs1]⟩)
  have HR1 : Hid (∀ O, Room (w1.alloc O) w.heap.size 6) := Lib.hid (fun O => by
    have h := box_room w
    rw [← hw1] at h
    exact h.below (wbox w1 O))
  have HA := Lib.hid (fun O => all_new w (w1.alloc O) ((HX.out O).1) a c n K hnc hc hn hadr hE)
  have HC3 : Hid (∀ W, Below (w1.alloc (.cells #[.int .i64 k, .string t, .int .i64 z, .float .f64 r, .bool f, .slice a n c] 26)).heap.size (w1.alloc (.cells #[.int .i64 k, .string t, .int .i64 z, .float .f64 r, .bool f, .slice a n c] 26)) W → At W (w.heap.size + 1) 0 (.mk k t z r f a c n K) ∧ ∀ p, W.frozen? ⟨w.heap.size + 1, p, none⟩ = false) := Lib.hid (fun W hW => by
    rw [← hs1]
    have hlt : w1.heap.size < (w1.alloc (.cells #[.int .i64 k, .string t, .int .i64 z, .float .f64 r, .bool f, .slice a n c] 26)).heap.size := by simp
    refine ⟨At.below hW hlt ⟨?_, ?_, ?_, ?_, ?_, ?_⟩, fun p => ?_⟩
    · rw [World.cell?_alloc_new]; rfl
    · rw [World.cell?_alloc_new]; rfl
    · rw [World.cell?_alloc_new]; rfl
    · rw [World.cell?_alloc_new]; rfl
    · rw [World.cell?_alloc_new]; rfl
    · rw [World.cell?_alloc_new]; rfl
    · rw [hW.frozen (p := ⟨w1.heap.size, p, none⟩) hlt]; simp)
  obtain ⟨k7, k8, k9, k10, k11, k12, k13, k14⟩ := hk
  have e7 : (k == 7) = false := beq_eq_false_iff_ne.2 k7
  have e8 : (k == 8) = false := beq_eq_false_iff_ne.2 k8
  have e9 : (k == 9) = false := beq_eq_false_iff_ne.2 k9
  have e10 : (k == 10) = false := beq_eq_false_iff_ne.2 k10
  have e11 : (k == 11) = false := beq_eq_false_iff_ne.2 k11
  have e12 : (k == 12) = false := beq_eq_false_iff_ne.2 k12
  have e13 : (k == 13) = false := beq_eq_false_iff_ne.2 k13
  have e14 : (k == 14) = false := beq_eq_false_iff_ne.2 k14
  have HD : Hid (∀ a' c' K', (∀ i, i < n → Dn (K i) (K' i)) → Dn (.mk k t z r f a c n K) (.mk k t z r f a' c' n K')) := Lib.hid (fun a' c' K' hd => by
    unfold Dn
    simp only [k7, k8, k9, k10, k11, k12, k13, k14, if_false, or_self]
    exact ⟨a', c', K', rfl, hd⟩)
  clear ha hE hadr k7 k8 k9 k10 k11 k12 k13 k14 hb1 hw1
  go_enter Tryd.func9, Tryd.ntmps9
  go_upto_region 16 with fail
  rw [← HW1.out] at x0 x1 x2 x3 x4 x5 ⊢
  obtain ⟨y0, y1, y2, y3, y4, y5⟩ := HY.out (.cells #[.int .i64 k, .string t, .int .i64 z, .float .f64 r, .bool f, .slice a n c] 26)
  go_wp2_with fail
  refine (HA.out _).mono ?_; rintro en w3 ⟨a', c', rfl, ⟨K', hN⟩, hb3⟩
  obtain ⟨hX1, hX2⟩ := HX.out (.cells #[.int .i64 k, .string t, .int .i64 z, .float .f64 r, .bool f, .slice a n c] 26)
  have HN : Hid (NewL (w.heap.size + 2) w3 a' c' n K K') := Lib.hid (by rw [← hX2]; exact hN)
  have HQ := Lib.hid (bstep hX1 hb3)
  obtain ⟨⟨p0, p1, p2, p3, p4, p5⟩, pf⟩ := HC3.out w3 hb3
  have p1 : w3.cell? ⟨w.heap.size + 1, 1, none⟩ = some (.string t) := p1
  have p2 : w3.cell? ⟨w.heap.size + 1, 2, none⟩ = some (.int .i64 z) := p2
  have p3 : w3.cell? ⟨w.heap.size + 1, 3, none⟩ = some (.float .f64 r) := p3
  have p4 : w3.cell? ⟨w.heap.size + 1, 4, none⟩ = some (.bool f) := p4
  have p5 : w3.cell? ⟨w.heap.size + 1, 5, none⟩ = some (.slice a n c) := p5
  have pf5 := pf 5
  have hR := (HR1.out _).below hb3
  obtain ⟨u0, g0⟩ := Option.isSome_iff_exists.1 (hR.cell 0 (by omega))
  obtain ⟨u1, g1⟩ := Option.isSome_iff_exists.1 (hR.cell 1 (by omega))
  obtain ⟨u2, g2⟩ := Option.isSome_iff_exists.1 (hR.cell 2 (by omega))
  obtain ⟨u3, g3⟩ := Option.isSome_iff_exists.1 (hR.cell 3 (by omega))
  obtain ⟨u4, g4⟩ := Option.isSome_iff_exists.1 (hR.cell 4 (by omega))
  obtain ⟨u5, g5⟩ := Option.isSome_iff_exists.1 (hR.cell 5 (by omega))
  have f0 := hR.fz 0
  have f1 := hR.fz 1
  have f2 := hR.fz 2
  have f3 := hR.fz 3
  have f4 := hR.fz 4
  have f5 := hR.fz 5
  clear hR hb3 hN hX1 hX2 pf HA HX HC3 HR1 HY HW1 y0 y1 y2 y3 y4 y5 x0 x1 x2 x3 x4 x5
  obtain ⟨B, hB⟩ : ∃ B, w.heap.size = B := ⟨_, rfl⟩
  have HBq := Lib.hid hB
  rw [hB] at p0 p1 p2 p3 p4 p5 pf5 g0 g1 g2 g3 g4 g5 f0 f1 f2 f3 f4 f5 HN ⊢
  have hBB : (⟨B + 1, 5, none⟩ : Addr) ≠ ⟨B, 0, none⟩ := fun e => by injection e with e; omega
  clear hB
  go_wp2_with fail
  exact bodyPost_ret (v := .agg #[.int .i64 k, .string t, .int .i64 z, .float .f64 r, .bool f, .slice a' n c']) (by simp [results, Tryd.results9, go_sem, g0, g1, g2, g3, g4, g5]) rfl
    (by rw [← HBq.out]; exact down_many (B := w.heap.size + 2) (Below.setCell (p := ⟨w.heap.size + 1, 5, none⟩) HQ.out (Nat.le_succ _) _) (by omega) ((by rw [HBq.out]; exact HN.out : NewL (w.heap.size + 2) w3 a' c' n K K').set (b := w.heap.size + 1) (by omega) 5 (.slice a' n c')) (HD.out a' c' K') hkb (by omega) hz hr hn)
end Go.Proofs.YtlebpaneignfaaaDoor
/- wire.downOf of a Verbatim; of any value that can be. Conditions: what start-up lays; bounds. -/
namespace Go.Proofs.YtlebpaneignfaaaDoor
set_option linter.unusedVariables false
set_option linter.unusedSimpArgs false
open Go.ChangeShapes Go.WideShapes Go.ChangeAt Go.RowKit
set_option maxHeartbeats 8000000 in
set_option maxRecDepth 100000 in
theorem down_verb (w : World) (b o : Nat) (t : ByteArray) (z : Int) (r : Nat) (f : Bool) (a : Option Addr) (c n : Nat) (K : Nat → Val) (hb : b < w.heap.size) (ha : At w b o (.mk 11 t z r f a c n K)) (ht : t.size ≤ 4096) (ht4 : 4 ≤ t.size) :
    Calls Tryd.prog 9 #[.pointer (some ⟨b, o, none⟩)] w (Downed w (.mk 11 t z r f a c n K)) := by
  obtain ⟨x0, x1, x2, x3, x4, x5⟩ := ha.below (wbox w (.cells #[.int .i64 0, .string ⟨#[]⟩, .int .i64 0, .float .f64 0, .bool false, .slice none 0 0] 26)) hb
  have HB := Lib.hid (wbox w (.cells #[.int .i64 0, .string ⟨#[]⟩, .int .i64 0, .float .f64 0, .bool false, .slice none 0 0] 26))
  have hmin : min (4 : Int) (t.size : Int) = 4 := by omega
  have hmin2 : min 4 t.size = 4 := by omega
  have h4c : (4 : Int) ≤ (t.size : Int) := by omega
  have HD : Hid (Dn (.mk 11 t z r f a c n K) (.mk 4 (t.extract 4 t.size) 0 0 false none 0 0 K)) := Lib.hid (by
    unfold Dn
    simp [Leaf, hmin2])
  have HZ : Hid ((t.extract 4 t.size).size ≤ 281474976710656) := Lib.hid (by rw [ByteArray.size_extract]; omega)
  obtain ⟨F, F1, F2, F3, -⟩ := over (w.alloc (.cells #[.int .i64 0, .string ⟨#[]⟩, .int .i64 0, .float .f64 0, .bool false, .slice none 0 0] 26))
  have c1 : ∀ x, (F x).cell? ⟨b, o + 1, none⟩ = some (.string t) := fun x => cell_below (F1 x) x1
  have HF1 := Lib.hid F1
  clear ha F1 F3
  go_enter Tryd.func9, Tryd.ntmps9
  go_wp2_with fail
  refine wp_region_tail F 11 (by kernel_rfl) (by kernel_rfl) F2 ?_
  simp only [List.take_succ_cons, List.take_zero, List.drop_succ_cons, List.drop_zero]
  repeat (go_big_quiet_step (fail))
  refine wpQuiet_nil ?_
  intro y1
  have hb1 := Lib.hid (HF1.out y1)
  clear c1 F2 HF1
  generalize F y1 = w2 at *
  go_wp2_with fail
  refine (bulk_calls _ _).mono ?_; rintro en w3 ⟨rfl, hb3⟩
  have HQ := Lib.hid (bstep hb1.out hb3)
  clear hb3
  have hR := (box_room w).below HQ.out
  obtain ⟨u0, g0⟩ := Option.isSome_iff_exists.1 (hR.cell 0 (by omega))
  obtain ⟨u1, g1⟩ := Option.isSome_iff_exists.1 (hR.cell 1 (by omega))
  obtain ⟨u2, g2⟩ := Option.isSome_iff_exists.1 (hR.cell 2 (by omega))
  obtain ⟨u3, g3⟩ := Option.isSome_iff_exists.1 (hR.cell 3 (by omega))
  obtain ⟨u4, g4⟩ := Option.isSome_iff_exists.1 (hR.cell 4 (by omega))
  obtain ⟨u5, g5⟩ := Option.isSome_iff_exists.1 (hR.cell 5 (by omega))
  have f0 := hR.fz 0
  have f1 := hR.fz 1
  have f2 := hR.fz 2
  have f3 := hR.fz 3
  have f4 := hR.fz 4
  have f5 := hR.fz 5
  clear hR
  go_wp2_with fail
  exact bodyPost_ret (v := .agg #[.int .i64 4, .string (t.extract 4 t.size), .int .i64 0, .float .f64 0, .bool false, .slice none 0 0]) (by simp [results, Tryd.results9, go_sem, g0, g1, g2, g3, g4, g5]) rfl
    (down_leaf (K := K) (bstep HB.out HQ.out) HD.out (by omega) HZ.out (by omega))
end Go.Proofs.YtlebpaneignfaaaDoor
/- wire.downOf of any value that can be. Conditions: what start-up lays; bounds. -/
namespace Go.Proofs.YtlebpaneignfaaaDoor
set_option linter.unusedVariables false
set_option linter.unusedSimpArgs false
open Go.ChangeShapes Go.WideShapes Go.ChangeAt Go.RowKit
theorem text_verb {t : ByteArray} (h : textB 11 t.data.toList = true) : 4 ≤ t.size := by
  have e : t.data.toList.length = t.size := Array.length_toList
  unfold textB at h
  simp at h
  rw [← e]
  rw [Array.length_toList]
  exact h.2.1
theorem downOf_calls : ∀ (x : Val) (S : Nat → Prop) (w : World) (b o : Nat), WCtx w → MaxW w → (∀ g, S g → g < w.heap.size) → Lies S w x → okV x → b < w.heap.size → At w b o x →
    Calls Tryd.prog 9 #[.pointer (some ⟨b, o, none⟩)] w (Downed w x) := by
  intro x
  induction x with
  | no => intro S w b o _ _ _ h; exact h.elim
  | mk k t z r f a c n K ih =>
    intro S w b o hc hm hS hl hok hb ha
    obtain ⟨⟨k0, k1, t1, z0, z1, r1, hnc, hcm, hn⟩, hadr, hkids⟩ := hl
    obtain ⟨hh, -, hoks⟩ := hok
    have htx := (head_parts hh).2.2.2.1
    have htl : t.size ≤ 4096 := by
      have h := text_len htx
      rwa [Array.length_toList] at h
    have htr : (textOf r).length ≤ 1000 := Nat.le_trans (textOf_le r) (by omega)
    have hadr2 : 0 < n → ∃ b o, a = some ⟨b, o, none⟩ := fun h => by
      obtain ⟨b2, o2, e, -⟩ := hadr h
      exact ⟨b2, o2, e⟩
    have hE : Each w a n K := fun i hi W hW b' o' e => by
      obtain ⟨b2, o2, e2, hs2⟩ := hadr (by omega)
      have hlt : b' < w.heap.size := by
        rw [e2] at e
        cases e
        exact hS _ hs2
      obtain ⟨h1, h2⟩ := hkids i hi
      exact ih i S W b' (o' + i * 6) (hc.below hW) (hm.below hW) (fun g hg => Nat.lt_of_lt_of_le (hS g hg) hW.size) (h2.below hW hS) (hoks i hi) (Nat.lt_of_lt_of_le hlt hW.size) ((h1 b' o' e).below hW hlt)
    by_cases h7 : k = 7
    · subst h7; exact down_real w b o t z r f a c n K hc hm hb ha r1 htl htr
    by_cases h8 : k = 8
    · subst h8
      cases f
      · exact down_flag_false w b o t z r a c n K hc hm hb ha r1 htl htr
      · exact down_flag_true w b o t z r a c n K hc hm hb ha r1 htl htr
    by_cases h9 : k = 9
    · subst h9; exact down_big w b o t z r f a c n K hc hm hb ha r1 htl htr
    by_cases h10 : k = 10
    · subst h10; exact down_blob w b o t z r f a c n K hc hm hb ha r1 htl htr
    by_cases h11 : k = 11
    · subst h11; exact down_verb w b o t z r f a c n K hb ha htl (text_verb htx)
    by_cases hl : k = 12 ∨ k = 13 ∨ k = 14
    · exact down_list w b o k t z r f a c n K hl hb ha hnc hcm hn hadr2 hE
    · exact down_same w b o k t z r f a c n K ⟨h7, h8, h9, h10, h11, fun e => hl (.inl e), fun e => hl (.inr (.inl e)), fun e => hl (.inr (.inr e))⟩ ⟨k0, k1⟩ htl ⟨z0, z1⟩ r1 hb ha hnc hcm hn hadr2 hE
end Go.Proofs.YtlebpaneignfaaaDoor
