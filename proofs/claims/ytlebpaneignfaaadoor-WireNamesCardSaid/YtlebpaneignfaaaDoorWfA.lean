/- wire.Down, plain: what an older reader is sent. wire.oneLine, bulk, flagNumber. Conditions: bounds; internal/bytealg.MaxLen is a number. -/
import Derived.Test.YtlebpaneignfaaaDoorWa2
import Derived.Test.YtlebpaneignfaaaDoorLaysB
import Derived.Test.YtlebpaneignfaaaDoorVa3
import Derived.Test.YtlebpaneignfaaaDoorWe1
import Derived.Laws.MakeOwn
namespace Go.Proofs.YtlebpaneignfaaaDoor
set_option linter.unusedVariables false
set_option linter.unusedSimpArgs false
open Go.ChangeShapes Go.WideShapes Go.ChangeAt Go.RowKit
/-- The library's greatest length is a number. -/
def MaxW (w : World) : Prop := ∃ m : Int, w.cell? ⟨4, 0, none⟩ = some (.int .i64 m)
theorem MaxW.below {w w' : World} (h : MaxW w) (hb : Below w.heap.size w w') : MaxW w' := by
  obtain ⟨m, hm⟩ := h
  exact ⟨m, cell_below hb hm⟩
/-- In one line. -/
def oneL (l : List UInt8) : List UInt8 := Lib.replaceAll (Lib.replaceAll l [13] [32]) [10] [32]
theorem bulk_calls (w : World) (s : ByteArray) : Calls Tryd.prog 18 #[.string s] w fun e w' => e = .returned (.agg #[.int .i64 4, .string s, .int .i64 0, .float .f64 0, .bool false, .slice none 0 0]) ∧ Below w.heap.size w w' := by
  go_enter Tryd.func18, Tryd.ntmps18
  go_wp2_with fail

  exact bodyPost_ret (v := .agg #[.int .i64 4, .string s, .int .i64 0, .float .f64 0, .bool false, .slice none 0 0]) (by simp [results, Tryd.results18, go_sem]) rfl ⟨rfl, (Below.refl _ _).alloc (Nat.le_refl _) _⟩
theorem flagNumber_calls (w : World) (f : Bool) : Calls Tryd.prog 19 #[.bool f] w fun e w' => e = .returned (.int .i64 (if f then 1 else 0)) ∧ w = w' := by
  cases f <;>
    (go_enter Tryd.func19, Tryd.ntmps19
     go_wp2_with fail
     go_ret
     exact ⟨rfl, rfl⟩)
theorem rep_calls (w : World) (hm : MaxW w) (s old new : ByteArray) (hs : s.size ≤ 1000000) (h1 : old.size = 1) (h2 : new.size = 1) :
    Calls Tryd.prog 26 #[.string s, .string old, .string new] w fun e w' => e = .returned (.string ⟨(Lib.replaceAll s.data.toList old.data.toList new.data.toList).toArray⟩) ∧ Below w.heap.size w w' := by
  obtain ⟨m, hm⟩ := hm
  have hc := Lib.countB_mul_le old (by omega) s.size s (Nat.le_refl _)
  exact Any.strings_ReplaceAll Tryd.lays155 Tryd.xtra155 s old new m w (by omega) hm (by omega) (by
    rw [h1] at hc
    rw [h2]
    omega)
theorem oneLine_calls (w : World) (hm : MaxW w) (s : ByteArray) (hs : s.size ≤ 100000) (hz : (Lib.replaceAll s.data.toList [13] [32]).length ≤ 1000000) :
    Calls Tryd.prog 20 #[.string s] w fun e w' => e = .returned (.string ⟨(oneL s.data.toList).toArray⟩) ∧ Below w.heap.size w w' := by
  have HM := Lib.hid hm
  have HA := Lib.hid (rep_calls w hm s ⟨#[13]⟩ ⟨#[32]⟩ (by omega) rfl rfl)
  have HB := Lib.hid (fun W (h : MaxW W) => rep_calls W h ⟨(Lib.replaceAll s.data.toList [13] [32]).toArray⟩ ⟨#[10]⟩ ⟨#[32]⟩ (by
    show (Lib.replaceAll s.data.toList [13] [32]).toArray.size ≤ 1000000
    rw [List.size_toArray]; exact hz) rfl rfl)
  have e1 : (⟨#[13]⟩ : ByteArray).data.toList = [13] := rfl
  have e2 : (⟨#[32]⟩ : ByteArray).data.toList = [32] := rfl
  have e3 : (⟨#[10]⟩ : ByteArray).data.toList = [10] := rfl
  rw [e1, e2] at HA
  rw [e2, e3] at HB
  clear hm e1 e2 e3
  unfold oneL
  generalize Lib.replaceAll s.data.toList [13] [32] = l1 at *
  generalize Lib.replaceAll l1 [10] [32] = l2 at *
  go_enter Tryd.func20, Tryd.ntmps20
  go_wp2_with fail
  refine HA.out.mono ?_; rintro en w2 ⟨rfl, hb⟩
  have HB2 := Lib.hid hb
  have HC := Lib.hid (HB.out w2 (HM.out.below hb))
  clear hb HA HB
  go_wp2_with fail
  refine HC.out.mono ?_; rintro en w3 ⟨rfl, hb⟩
  have HB3 := Lib.hid (bstep HB2.out hb)
  clear hb HC
  go_wp2_with fail
  go_ret
  exact ⟨rfl, HB3.out⟩
end Go.Proofs.YtlebpaneignfaaaDoor
/- wire.Down, plain: which value an older reader is sent for one. No program. -/
namespace Go.Proofs.YtlebpaneignfaaaDoor
set_option linter.unusedVariables false
open Go.ChangeShapes Go.WideShapes Go.ChangeAt Go.RowKit
/-- A value that has but a text. -/
def Leaf (k : Int) (t : ByteArray) (z : Int) : Val → Prop
  | .no => False
  | .mk k' t' z' r' f' a' c' n' _ => k' = k ∧ t' = t ∧ z' = z ∧ r' = 0 ∧ f' = false ∧ n' = 0 ∧ a' = none ∧ c' = 0
/-- What an older reader is sent for a value. -/
def Dn : Val → Val → Prop
  | .no, _ => False
  | .mk k t z r f _ _ n K, y =>
    if k = 7 then Leaf 4 ⟨(textOf r).toArray⟩ 0 y
    else if k = 8 then Leaf 3 ⟨#[]⟩ (if f then 1 else 0) y
    else if k = 9 then Leaf 4 t 0 y
    else if k = 11 then Leaf 4 (t.extract (min 4 t.size) t.size) 0 y
    else if k = 10 then Leaf 2 ⟨(oneL t.data.toList).toArray⟩ 0 y
    else ∃ a' c' K', y = (if k = 12 ∨ k = 13 ∨ k = 14 then .mk 5 ⟨#[]⟩ 0 0 false a' c' n K' else .mk k t z r f a' c' n K') ∧ ∀ i, i < n → Dn (K i) (K' i)
end Go.Proofs.YtlebpaneignfaaaDoor
/- wire.downAll, by what downOf says of each. Conditions: bounds. -/
namespace Go.Proofs.YtlebpaneignfaaaDoor
set_option linter.unusedVariables false
set_option linter.unusedSimpArgs false
open Go.ChangeShapes Go.WideShapes Go.ChangeAt Go.RowKit
theorem sset {w : World} {p : Addr} {v u : Value} (h : w.cell? p = some u) : (w.setCell p v).cell? p = some v := World.cell?_setCell_same w _ _ h
theorem soth {w : World} {p q : Addr} {v : Value} (h : p ≠ q) : (w.setCell p v).cell? q = w.cell? q := World.cell?_setCell_other w _ _ _ h
/-- What downOf answers: a value in new memory. -/
def Downed (w : World) (x : Val) (e : Ending) (w' : World) : Prop := ∃ y, e = .returned y.agg ∧ Dn x y ∧ Lies (fun g => w.heap.size ≤ g ∧ g < w'.heap.size) w' y ∧ Below w.heap.size w w'
theorem iVal : (Tryd.prog.info? 26).map (fun i => (i.zero, i.size, i.bytes)) = some (some (.agg #[.int .i64 0, .string ⟨#[]⟩, .int .i64 0, .float .f64 0, .bool false, .slice none 0 0]), 6, 72) := by kernel_rfl
def z6 : Array Value := #[.int .i64 0, .string ⟨#[]⟩, .int .i64 0, .float .f64 0, .bool false, .slice none 0 0]
theorem mk_vals (w : World) (n : Nat) (hn : n * 72 ≤ 281474976710656) : (Instr.makeSlice 24 (.int .i64 (n : Int)) (.int .i64 (n : Int))).run Tryd.prog w = .ok (.slice (some ⟨w.heap.size, 0, none⟩) n n) (w.alloc (.cells (madeCells z6 (n * 6)) 26)) := by
  obtain ⟨i0, hi, hz0, hz1, hz2⟩ := info_parts iVal
  have h := run_make (P := Tryd.prog) w 24 26 i0 (.agg z6) Tryd.underlying24 hi hz0 .i64 .i64 n n (by omega) (Int.le_refl _) (by rw [hz2]; omega) (by omega)
  rw [hz1] at h
  exact h
/-- The place of the list that comes to be. -/
structure Room (w : World) (g m : Nat) : Prop where
  lt : g < w.heap.size
  cell : ∀ p, p < m → (w.cell? ⟨g, p, none⟩).isSome = true
  fz : ∀ p, w.frozen? ⟨g, p, none⟩ = false
theorem Room.below {w w' : World} {g m : Nat} (h : Room w g m) (hb : Below w.heap.size w w') : Room w' g m :=
  ⟨Nat.lt_of_lt_of_le h.lt hb.size, fun p hp => by rw [hb.cell (p := ⟨g, p, none⟩) h.lt]; exact h.cell p hp, fun p => by rw [hb.frozen (p := ⟨g, p, none⟩) h.lt]; exact h.fz p⟩
theorem room_made (w : World) (n : Nat) : Room (w.alloc (.cells (madeCells z6 (n * 6)) 26)) w.heap.size (n * 6) :=
  ⟨by simp, fun p hp => by rw [World.cell?_alloc_new]; simp [madeCells, hp], fun p => by simp⟩
theorem Room.set {w : World} {g m : Nat} (h : Room w g m) (p : Nat) (v : Value) : Room (w.setCell ⟨g, p, none⟩ v) g m :=
  ⟨by simpa using h.lt, fun q hq => by
    by_cases e : p = q
    · subst e
      obtain ⟨u, hu⟩ := Option.isSome_iff_exists.1 (h.cell p hq)
      rw [sset hu]; rfl
    · rw [soth (fun e2 => e (by injection e2))]; exact h.cell q hq, fun q => by rw [World.frozen?_setCell]; exact h.fz q⟩
theorem Lies.set {S : Nat → Prop} {w : World} {g : Nat} (hS : ∀ b, S b → b ≠ g) {y : Val} (h : Lies S w y) (p : Nat) (v : Value) : Lies S (w.setCell ⟨g, p, none⟩ v) y :=
  h.keep fun b hb => ⟨hb, fun o => soth fun e => hS b hb (by injection e with e _ _; exact e.symm)⟩
theorem At.set {w : World} {g o p : Nat} {y : Val} (h : At w g o y) (hp : p < o ∨ o + 6 ≤ p) (v : Value) : At (w.setCell ⟨g, p, none⟩ v) g o y := by
  cases y with
  | no => exact h.elim
  | mk k t z r f a c n K =>
    obtain ⟨h0, h1, h2, h3, h4, h5⟩ := h
    have e : ∀ q, o ≤ q → q < o + 6 → (w.setCell ⟨g, p, none⟩ v).cell? ⟨g, q, none⟩ = w.cell? ⟨g, q, none⟩ := fun q h1 h2 => soth fun e => by injection e with _ e _; omega
    exact ⟨(e _ (by omega) (by omega)).trans h0, (e _ (by omega) (by omega)).trans h1, (e _ (by omega) (by omega)).trans h2, (e _ (by omega) (by omega)).trans h3, (e _ (by omega) (by omega)).trans h4, (e _ (by omega) (by omega)).trans h5⟩
/-- Six cells put. -/
def put6 (w : World) (g o : Nat) (v0 v1 v2 v3 v4 v5 : Value) : World := ((((((w.setCell ⟨g, o, none⟩ v0).setCell ⟨g, o + 1, none⟩ v1).setCell ⟨g, o + 2, none⟩ v2).setCell ⟨g, o + 3, none⟩ v3).setCell ⟨g, o + 4, none⟩ v4).setCell ⟨g, o + 5, none⟩ v5)
theorem put6_at {w : World} {g o m : Nat} (h : Room w g m) (ho : o + 6 ≤ m) {k : Int} {t : ByteArray} {z : Int} {r : Nat} {f : Bool} {a : Option Addr} {c n : Nat} {K : Nat → Val} :
    At (put6 w g o (.int .i64 k) (.string t) (.int .i64 z) (.float .f64 r) (.bool f) (.slice a n c)) g o (.mk k t z r f a c n K) := by
  have hne : ∀ {i j : Nat}, i ≠ j → (⟨g, i, none⟩ : Addr) ≠ ⟨g, j, none⟩ := fun h e => h (by injection e)
  have hs : ∀ {W : World} (p : Nat) (v : Value), Room W g m → p < m → (W.setCell ⟨g, p, none⟩ v).cell? ⟨g, p, none⟩ = some v := fun p v hW hp => by
    obtain ⟨u, hu⟩ := Option.isSome_iff_exists.1 (hW.cell p hp)
    exact sset hu
  have r1 := h.set o (.int .i64 k)
  have r2 := r1.set (o + 1) (.string t)
  have r3 := r2.set (o + 2) (.int .i64 z)
  have r4 := r3.set (o + 3) (.float .f64 r)
  have r5 := r4.set (o + 4) (.bool f)
  unfold put6
  refine ⟨?_, ?_, ?_, ?_, ?_, hs _ _ r5 (by omega)⟩
  · rw [soth (hne (by omega)), soth (hne (by omega)), soth (hne (by omega)), soth (hne (by omega)), soth (hne (by omega))]
    exact hs _ _ h (by omega)
  · rw [soth (hne (by omega)), soth (hne (by omega)), soth (hne (by omega)), soth (hne (by omega))]
    exact hs _ _ r1 (by omega)
  · rw [soth (hne (by omega)), soth (hne (by omega)), soth (hne (by omega))]
    exact hs _ _ r2 (by omega)
  · rw [soth (hne (by omega)), soth (hne (by omega))]
    exact hs _ _ r3 (by omega)
  · rw [soth (hne (by omega))]
    exact hs _ _ r4 (by omega)
theorem put6_room {w : World} {g m : Nat} (h : Room w g m) (o : Nat) (v0 v1 v2 v3 v4 v5 : Value) : Room (put6 w g o v0 v1 v2 v3 v4 v5) g m := ((((((h.set _ v0).set _ v1).set _ v2).set _ v3).set _ v4).set _ v5)
theorem put6_below {W w : World} {B g : Nat} (h : Below B W w) (hg : B ≤ g) (o : Nat) (v0 v1 v2 v3 v4 v5 : Value) : Below B W (put6 w g o v0 v1 v2 v3 v4 v5) := (((((h.setCell hg _).setCell hg _).setCell hg _).setCell hg _).setCell hg _).setCell hg _
theorem put6_lies {S : Nat → Prop} {w : World} {g : Nat} (hS : ∀ b, S b → b ≠ g) {y : Val} (h : Lies S w y) (o : Nat) (v0 v1 v2 v3 v4 v5 : Value) : Lies S (put6 w g o v0 v1 v2 v3 v4 v5) y := (((((h.set hS _ v0).set hS _ v1).set hS _ v2).set hS _ v3).set hS _ v4).set hS _ v5
theorem put6_far {w : World} {g o p : Nat} {y : Val} (h : At w g o y) (hp : p + 6 ≤ o ∨ o + 6 ≤ p) (v0 v1 v2 v3 v4 v5 : Value) : At (put6 w g p v0 v1 v2 v3 v4 v5) g o y :=
  (((((h.set (by omega) v0).set (by omega) v1).set (by omega) v2).set (by omega) v3).set (by omega) v4).set (by omega) v5
theorem put6_size (w : World) (g o : Nat) (v0 v1 v2 v3 v4 v5 : Value) : (put6 w g o v0 v1 v2 v3 v4 v5).heap.size = w.heap.size := by unfold put6; simp
end Go.Proofs.YtlebpaneignfaaaDoor
/- wire.downAll, by what downOf says of each. Conditions: bounds. -/
namespace Go.Proofs.YtlebpaneignfaaaDoor
set_option linter.unusedVariables false
set_option linter.unusedSimpArgs false
open Go.ChangeShapes Go.WideShapes Go.ChangeAt Go.RowKit
/-- What the list that comes to be holds, as far as j. -/
structure DnTo (w0 w : World) (g n j : Nat) (K K' : Nat → Val) : Prop where
  bel : Below w0.heap.size w0 w
  g0 : g = w0.heap.size
  room : Room w g (n * 6)
  at_ : ∀ i, i < j → Dn (K i) (K' i) ∧ At w g (i * 6) (K' i) ∧ Lies (fun q => g < q ∧ q < w.heap.size) w (K' i)
set_option maxHeartbeats 8000000 in
set_option maxRecDepth 100000 in
theorem downAll_calls (w : World) (a : Option Addr) (n c : Nat) (K : Nat → Val) (hnc : n ≤ c) (hc : c ≤ 9223372036854775807) (hn : n * 72 ≤ 281474976710656) (hadr : 0 < n → ∃ b o, a = some ⟨b, o, none⟩)
    (hIH : ∀ i, i < n → ∀ W, Below w.heap.size w W → ∀ b o, a = some ⟨b, o, none⟩ → Calls Tryd.prog 9 #[.pointer (some ⟨b, o + i * 6, none⟩)] W (Downed W (K i))) :
    Calls Tryd.prog 21 #[.slice a n c] w fun e w' => ∃ (a' : Option Addr) (c' : Nat), e = .returned (.slice a' n c') ∧ n ≤ c' ∧ c' ≤ 9223372036854775807 ∧ (0 < n → ∃ g, a' = some ⟨g, 0, none⟩ ∧ w.heap.size ≤ g ∧ g < w'.heap.size) ∧
      (∃ K' : Nat → Val, ∀ i, i < n → Dn (K i) (K' i) ∧ (∀ g, a' = some ⟨g, 0, none⟩ → At w' g (i * 6) (K' i)) ∧ Lies (fun q => w.heap.size ≤ q ∧ q < w'.heap.size) w' (K' i)) ∧ Below w.heap.size w w' := by
  have HIH := Lib.hid hIH
  clear hIH
  by_cases h0 : n = 0
  · subst h0
    go_enter Tryd.func21, Tryd.ntmps21
    go_wp2_with fail
    go_ret
    exact ⟨none, 0, rfl, Nat.le_refl _, by omega, fun h => absurd h (Nat.lt_irrefl _), ⟨K, fun i h => absurd h (Nat.not_lt_zero _)⟩, Below.refl _ _⟩
  obtain ⟨b, o, rfl⟩ := hadr (by omega)
  have h0b : ((n : Int) == 0) = false := by rw [beq_eq_false_iff_ne]; omega
  have hmk := fun W => mk_vals W n hn
  have H0 : Hid (DnTo w (w.alloc (.cells (madeCells z6 (n * 6)) 26)) w.heap.size n 0 K K) := Lib.hid ⟨(Below.refl _ _).alloc (Nat.le_refl _) _, rfl, room_made w n, fun i h => absurd h (Nat.not_lt_zero _)⟩
  generalize madeCells z6 (n * 6) = Z at *
  go_enter Tryd.func21, Tryd.ntmps21
  go_wp2_with fail
  clear hmk
  obtain ⟨g, hg⟩ : ∃ g, w.heap.size = g := ⟨_, rfl⟩
  rw [hg] at H0 ⊢
  have HG := Lib.hid hg
  clear hg
  go_loopg [4, 13] (n + 1) (fun gm _ vi wr => ∃ (j : Nat) (K' : Nat → Val), vi = .int .i64 j ∧ j ≤ n ∧ n - j ≤ gm ∧ Hid (DnTo w wr g n j K K'))
  case atStart => exact ⟨0, K, rfl, by omega, by omega, H0⟩
  case round =>
    obtain ⟨j, K', rfl, hj, hgm, HD⟩ := hrel
    clear H0
    by_cases hjn : j < n
    case neg =>
      obtain rfl : j = n := by omega
      have hjc : ¬ (j : Int) < (j : Int) := by omega
      go_wp2_with fail
      go_ret
      refine ⟨some ⟨g, 0, none⟩, j, rfl, Nat.le_refl _, by omega, fun _ => ⟨g, rfl, by rw [HG.out]; exact Nat.le_refl _, HD.out.room.lt⟩, ⟨K', fun i hi => ?_⟩, HD.out.bel⟩
      obtain ⟨d1, d2, d3⟩ := HD.out.at_ i hi
      exact ⟨d1, fun g' e => by cases e; exact d2, d3.wide fun q hq => ⟨by rw [HG.out]; omega, hq.2⟩⟩
    case pos =>
      have hjc : (j : Int) < (n : Int) := by omega
      have hjl : j < c := by omega
      have HC := Lib.hid (HIH.out j hjn wr HD.out.bel b o rfl)
      go_wp2_with fail
      refine HC.out.mono ?_; rintro en w2 ⟨y, rfl, hy, hl, hb⟩
      cases y with
      | no => exact hl.elim
      | mk k t z r f a' c' n' Ky =>
      have hR2 := HD.out.room.below hb
      have f0 := hR2.fz (j * 6)
      have f1 := hR2.fz (j * 6 + 1)
      have f2 := hR2.fz (j * 6 + 2)
      have f3 := hR2.fz (j * 6 + 3)
      have f4 := hR2.fz (j * 6 + 4)
      have f5 := hR2.fz (j * 6 + 5)
      obtain ⟨u0, g0⟩ := Option.isSome_iff_exists.1 (hR2.cell (j * 6) (by omega))
      obtain ⟨u1, g1⟩ := Option.isSome_iff_exists.1 (hR2.cell (j * 6 + 1) (by omega))
      obtain ⟨u2, g2⟩ := Option.isSome_iff_exists.1 (hR2.cell (j * 6 + 2) (by omega))
      obtain ⟨u3, g3⟩ := Option.isSome_iff_exists.1 (hR2.cell (j * 6 + 3) (by omega))
      obtain ⟨u4, g4⟩ := Option.isSome_iff_exists.1 (hR2.cell (j * 6 + 4) (by omega))
      obtain ⟨u5, g5⟩ := Option.isSome_iff_exists.1 (hR2.cell (j * 6 + 5) (by omega))
      have HN : Hid (DnTo w (put6 w2 g (j * 6) (.int .i64 k) (.string t) (.int .i64 z) (.float .f64 r) (.bool f) (.slice a' n' c')) g n (j + 1) K (fun m => if m = j then .mk k t z r f a' c' n' Ky else K' m)) := by
        have hgl := HD.out.room.lt
        refine Lib.hid ⟨put6_below (bstep HD.out.bel hb) (by rw [HD.out.g0]; exact Nat.le_refl _) _ _ _ _ _ _ _, HD.out.g0, put6_room hR2 _ _ _ _ _ _ _, fun i hi => ?_⟩
        rw [put6_size]
        by_cases e : i = j
        · subst e
          rw [if_pos rfl]
          refine ⟨hy, put6_at hR2 (by omega), put6_lies (fun q hq => by omega) (hl.wide fun q hq => ⟨by omega, hq.2⟩) _ _ _ _ _ _ _⟩
        · rw [if_neg e]
          obtain ⟨d1, d2, d3⟩ := HD.out.at_ i (by omega)
          refine ⟨d1, put6_far (d2.below hb hgl) (by omega) _ _ _ _ _ _, put6_lies (fun q hq => by omega) ((d3.below hb (fun q hq => hq.2)).wide fun q hq => ⟨hq.1, Nat.lt_of_lt_of_le hq.2 hb.size⟩) _ _ _ _ _ _ _⟩
      clear hy hl hb hR2 HC
      unfold Val.agg
      simp only
      go_wp2_with fail
      go_roundg (gk - 1)
      case measure => omega
      case rel => exact ⟨j + 1, _, by go_num, by omega, by omega, HN⟩
end Go.Proofs.YtlebpaneignfaaaDoor
