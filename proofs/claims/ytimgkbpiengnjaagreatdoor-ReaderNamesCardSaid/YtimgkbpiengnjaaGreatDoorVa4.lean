/- Package value's copyOf and Copy: the same value, with lists of its own in new memory. Conditions: as countOf's; a list's length within the reach. -/
import Derived.Test.YtimgkbpiengnjaaGreatDoorVa3
import Derived.Laws.MakeOwn
import Derived.Laws.Tables
import Derived.Lib.SliceRun
namespace Go.Proofs.YtimgkbpiengnjaaGreatDoor
open Go.ChangeShapes Go.WideShapes Go.ChangeAt Go.RowKit

/-- The same value, wherever its lists lie. -/
def Twin : Val → Val → Prop
  | .no, _ => False
  | .mk k t z r f _ _ n K, v' => ∃ a' c' K', v' = .mk k t z r f a' c' n K' ∧ ∀ i, i < n → Twin (K i) (K' i)
/-- Its lists lie in blocks from lo on; its own list can be written, and what is in that lies in other blocks. -/
def New (lo : Nat) (w : World) : Val → Prop
  | .no => False
  | .mk k t z r f a c n K => Lies (fun x => lo ≤ x ∧ x < w.heap.size) w (.mk k t z r f a c n K) ∧
      (0 < n → ∃ b, a = some ⟨b, 0, none⟩ ∧ lo ≤ b ∧ (∀ i, i < n * 6 → w.frozen? ⟨b, i, none⟩ = false) ∧ ∀ i, i < n → Lies (fun x => b < x ∧ x < w.heap.size) w (K i))
def Copied (v : Val) (w : World) (e : Ending) (w' : World) : Prop := ∃ v', e = .returned v'.agg ∧ Twin v v' ∧ Below w.heap.size w w' ∧ New w.heap.size w' v'

/-- Of a list under way: j are copied. -/
def Made (W : World) (blk n j : Nat) (K : Nat → Val) (w : World) : Prop :=
  Below W.heap.size W w ∧ W.heap.size ≤ blk ∧ blk < w.heap.size ∧ (∀ i, i < n * 6 → (∃ v, w.cell? ⟨blk, i, none⟩ = some v) ∧ w.frozen? ⟨blk, i, none⟩ = false) ∧
  ∃ K' : Nat → Val, ∀ i, i < j → At w blk (i * 6) (K' i) ∧ Lies (fun x => blk < x ∧ x < w.heap.size) w (K' i) ∧ Twin (K i) (K' i)

/-- A value put into six cells. -/
def putVal (w : World) (b o : Nat) : Val → World
  | .no => w
  | .mk k t z r f a c n _ => (((((w.setCell ⟨b, o, none⟩ (.int .i64 k)).setCell ⟨b, o + 1, none⟩ (.string t)).setCell ⟨b, o + 2, none⟩ (.int .i64 z)).setCell ⟨b, o + 3, none⟩ (.float .f64 r)).setCell ⟨b, o + 4, none⟩ (.bool f)).setCell ⟨b, o + 5, none⟩ (.slice a n c)
theorem addr_ne {b o b2 o2 : Nat} (h : b ≠ b2 ∨ o ≠ o2) : (⟨b, o, none⟩ : Addr) ≠ ⟨b2, o2, none⟩ := by
  intro e
  injection e with e1 e2
  omega
theorem putVal_other (w : World) (b o : Nat) (v : Val) (b2 o2 : Nat) (h : b ≠ b2 ∨ o2 < o ∨ o + 6 ≤ o2) : (putVal w b o v).cell? ⟨b2, o2, none⟩ = w.cell? ⟨b2, o2, none⟩ := by
  cases v with
  | no => rfl
  | mk k t z r f a c n K =>
    unfold putVal
    simp only []
    iterate 6 rw [World.cell?_setCell_other _ _ _ _ (addr_ne (by omega))]
theorem putVal_frozen (w : World) (b o : Nat) (v : Val) (p : Addr) : (putVal w b o v).frozen? p = w.frozen? p := by
  cases v with
  | no => rfl
  | mk k t z r f a c n K =>
    unfold putVal
    simp only []
    iterate 6 rw [World.frozen?_setCell]
theorem putVal_below {B : Nat} {w w' : World} (h : Below B w w') {b : Nat} (hb : B ≤ b) (o : Nat) (v : Val) : Below B w (putVal w' b o v) := by
  cases v with
  | no => exact h
  | mk k t z r f a c n K =>
    exact (((((h.setCell hb _).setCell hb _).setCell hb _).setCell hb _).setCell hb _).setCell hb _
theorem putVal_size (w : World) (b o : Nat) (v : Val) : (putVal w b o v).heap.size = w.heap.size := by
  cases v with
  | no => rfl
  | mk k t z r f a c n K => simp [putVal]
theorem putVal_some (w : World) (b o : Nat) (v : Val) (p : Addr) (h : ∃ x, w.cell? p = some x) : ∃ x, (putVal w b o v).cell? p = some x := by
  obtain ⟨x, h⟩ := h
  cases v with
  | no => exact ⟨x, h⟩
  | mk k t z r f a c n K =>
    unfold putVal
    simp only []
    obtain ⟨x, h⟩ := cell?_setCell_some (p := ⟨b, o, none⟩) (x := .int .i64 k) h
    obtain ⟨x, h⟩ := cell?_setCell_some (p := ⟨b, o + 1, none⟩) (x := .string t) h
    obtain ⟨x, h⟩ := cell?_setCell_some (p := ⟨b, o + 2, none⟩) (x := .int .i64 z) h
    obtain ⟨x, h⟩ := cell?_setCell_some (p := ⟨b, o + 3, none⟩) (x := .float .f64 r) h
    obtain ⟨x, h⟩ := cell?_setCell_some (p := ⟨b, o + 4, none⟩) (x := .bool f) h
    exact cell?_setCell_some h
theorem putVal_at (w : World) (b o : Nat) (k : Int) (t : ByteArray) (z : Int) (r : Nat) (f : Bool) (a : Option Addr) (c n : Nat) (K : Nat → Val) (h : ∀ i, i < 6 → ∃ x, w.cell? ⟨b, o + i, none⟩ = some x) : At (putVal w b o (.mk k t z r f a c n K)) b o (.mk k t z r f a c n K) := by
  have hs : ∀ i, i < 6 → (w.cell? ⟨b, o + i, none⟩).isSome = true := fun i hi => by obtain ⟨x, h⟩ := h i hi; rw [h]; rfl
  have hs0 := hs 0 (by omega)
  have hs1 := hs 1 (by omega)
  have hs2 := hs 2 (by omega)
  have hs3 := hs 3 (by omega)
  have hs4 := hs 4 (by omega)
  have hs5 := hs 5 (by omega)
  rw [Nat.add_zero] at hs0
  refine ⟨?_, ?_, ?_, ?_, ?_, ?_⟩ <;> unfold putVal <;> simp only []
  · iterate 5 rw [World.cell?_setCell_other _ _ _ _ (addr_ne (by omega))]
    exact World.cell?_setCell_same' _ _ _ hs0
  · iterate 4 rw [World.cell?_setCell_other _ _ _ _ (addr_ne (by omega))]
    refine World.cell?_setCell_same' _ _ _ ?_
    iterate 1 rw [World.cell?_setCell_other _ _ _ _ (addr_ne (by omega))]
    exact hs1
  · iterate 3 rw [World.cell?_setCell_other _ _ _ _ (addr_ne (by omega))]
    refine World.cell?_setCell_same' _ _ _ ?_
    iterate 2 rw [World.cell?_setCell_other _ _ _ _ (addr_ne (by omega))]
    exact hs2
  · iterate 2 rw [World.cell?_setCell_other _ _ _ _ (addr_ne (by omega))]
    refine World.cell?_setCell_same' _ _ _ ?_
    iterate 3 rw [World.cell?_setCell_other _ _ _ _ (addr_ne (by omega))]
    exact hs3
  · iterate 1 rw [World.cell?_setCell_other _ _ _ _ (addr_ne (by omega))]
    refine World.cell?_setCell_same' _ _ _ ?_
    iterate 4 rw [World.cell?_setCell_other _ _ _ _ (addr_ne (by omega))]
    exact hs4
  · refine World.cell?_setCell_same' _ _ _ ?_
    iterate 5 rw [World.cell?_setCell_other _ _ _ _ (addr_ne (by omega))]
    exact hs5

theorem New.lies {lo : Nat} {w : World} {v : Val} (h : New lo w v) : Lies (fun x => lo ≤ x ∧ x < w.heap.size) w v := by
  cases v with
  | no => exact h.elim
  | mk k t z r f a c n K => exact h.1
theorem New.put {lo : Nat} {w : World} {v : Val} (h : New lo w v) (b : Nat) (hb : b < lo) (u : Val) : ∀ {lo'}, lo' ≤ lo → New lo' (putVal w b 0 u) v := by
  intro lo' hlo
  cases v with
  | no => exact h.elim
  | mk k t z r f a c n K =>
    obtain ⟨h1, h2⟩ := h
    have hc : ∀ x, lo ≤ x → ∀ o, (putVal w b 0 u).cell? ⟨x, o, none⟩ = w.cell? ⟨x, o, none⟩ := fun x hx o => putVal_other _ _ _ _ _ _ (.inl (by omega))
    have hz := putVal_size w b 0 u
    refine ⟨h1.keep fun x hx => ⟨⟨by omega, by rw [hz]; exact hx.2⟩, hc x hx.1⟩, fun hn => ?_⟩
    obtain ⟨q, e, hq, hf, hk⟩ := h2 hn
    exact ⟨q, e, by omega, fun i hi => by rw [putVal_frozen]; exact hf i hi, fun i hi => (hk i hi).keep fun x hx => ⟨⟨hx.1, by rw [hz]; exact hx.2⟩, hc x (by omega)⟩⟩
/-- One more is copied. -/
theorem made_step {W w w1 : World} {blk n j : Nat} {K : Nat → Val} {v' : Val} (hm : Made W blk n j K w) (hj : j < n) (ht : Twin (K j) v') (hb : Below w.heap.size w w1) (hn : New w.heap.size w1 v') :
    Made W blk n (j + 1) K (putVal w1 blk (j * 6) v') := by
  obtain ⟨m1, m2, m3, m4, K', m5⟩ := hm
  have hz := hb.size
  refine ⟨putVal_below (m1.trans (hb.mono (by have := m1.size; omega))) m2 _ _, m2, by rw [putVal_size]; omega, fun i hi => ⟨putVal_some _ _ _ _ _ ?_, ?_⟩, fun i => if i = j then v' else K' i, fun i hi => ?_⟩
  · obtain ⟨x, hx⟩ := (m4 i hi).1
    exact ⟨x, (hb.cell (p := ⟨blk, i, none⟩) m3).trans hx⟩
  · rw [putVal_frozen]
    exact (hb.frozen (p := ⟨blk, i, none⟩) m3).trans (m4 i hi).2
  · by_cases e : i = j
    · subst e
      dsimp only
      rw [if_pos rfl]
      refine ⟨?_, ?_, ht⟩
      · cases v' with
        | no => exact hn.elim
        | mk k t z r f a c n' K2 =>
          refine putVal_at _ _ _ _ _ _ _ _ _ _ _ _ fun q hq => ?_
          obtain ⟨x, hx⟩ := (m4 (i * 6 + q) (by omega)).1
          exact ⟨x, (hb.cell (p := ⟨blk, i * 6 + q, none⟩) m3).trans hx⟩
      · refine hn.lies.keep fun b hb => ⟨⟨by omega, by rw [putVal_size]; omega⟩, fun o => putVal_other _ _ _ _ _ _ (.inl (by omega))⟩
    · dsimp only
      rw [if_neg e]
      obtain ⟨q1, q2, q3⟩ := m5 i (by omega)
      refine ⟨?_, ?_, q3⟩
      · have q1 := q1.below hb m3
        cases hK : K' i with
        | no => rw [hK] at q1; exact q1.elim
        | mk k t z r f a c n' K2 =>
          rw [hK] at q1
          obtain ⟨h0, h1, h2, h3, h4, h5⟩ := q1
          exact ⟨(putVal_other _ _ _ _ _ _ (by omega)).trans h0, (putVal_other _ _ _ _ _ _ (by omega)).trans h1, (putVal_other _ _ _ _ _ _ (by omega)).trans h2, (putVal_other _ _ _ _ _ _ (by omega)).trans h3, (putVal_other _ _ _ _ _ _ (by omega)).trans h4, (putVal_other _ _ _ _ _ _ (by omega)).trans h5⟩
      · exact q2.keep fun b hb2 => ⟨⟨hb2.1, by rw [putVal_size]; omega⟩, fun o => (putVal_other _ _ _ _ _ _ (.inl (by omega))).trans (hb.cell (p := ⟨b, o, none⟩) hb2.2)⟩
theorem made_cells {W w w1 : World} {blk n j : Nat} {K : Nat → Val} (hm : Made W blk n j K w) (hj : j < n) (hb : Below w.heap.size w w1) (q : Nat) (hq : q < 6) :
    (∃ x, w1.cell? ⟨blk, j * 6 + q, none⟩ = some x) ∧ w1.frozen? ⟨blk, j * 6 + q, none⟩ = false := by
  obtain ⟨m1, m2, m3, m4, K', m5⟩ := hm
  obtain ⟨⟨x, hx⟩, hf⟩ := m4 (j * 6 + q) (by omega)
  exact ⟨⟨x, (hb.cell (p := ⟨blk, j * 6 + q, none⟩) m3).trans hx⟩, (hb.frozen (p := ⟨blk, j * 6 + q, none⟩) m3).trans hf⟩

@[go_sem] theorem nil_none (w : World) (n c : Nat) : (binOp .eql 24 (.slice none n c) (.slice none 0 0)).run Tryz.prog w = .ok (.bool true) w :=
  Lib.run_eql_slice_nil w _ _ none n c 0 0 Tryz.underlying24
@[go_sem] theorem nil_some (w : World) (a : Addr) (n c : Nat) : (binOp .eql 24 (.slice (some a) n c) (.slice none 0 0)).run Tryz.prog w = .ok (.bool false) w :=
  Lib.run_eql_slice_nil w _ _ (some a) n c 0 0 Tryz.underlying24
theorem info25 : (Tryz.prog.info? 26).map (fun i => (i.zero, i.size, i.bytes)) = some (some (.agg #[.int .i64 0, .string ⟨#[]⟩, .int .i64 0, .float .f64 0, .bool false, .slice none 0 0]), 6, 72) := by kernel_rfl

theorem made_done {w W1 wr : World} {blk n : Nat} {K : Nat → Val} (hm : Made W1 blk n n K wr) (_hW : W1.heap.size = blk) (hblk : w.heap.size + 1 + 1 = blk) (x : Value) (u : Val)
    (k : Int) (t : ByteArray) (z : Int) (r : Nat) (f : Bool) (h9 : -9223372036854775808 ≤ k ∧ k ≤ 9223372036854775807 ∧ t.size ≤ 281474976710656 ∧ -9223372036854775808 ≤ z ∧ z ≤ 9223372036854775807 ∧ r < 18446744073709551616 ∧ n ≤ n ∧ n ≤ 9223372036854775807 ∧ n * 72 ≤ 281474976710656) :
    ∃ K', New w.heap.size (putVal (wr.setCell ⟨w.heap.size, 5, none⟩ x) (w.heap.size + 1) 0 u) (.mk k t z r f (some ⟨blk, 0, none⟩) n n K') ∧ ∀ i, i < n → Twin (K i) (K' i) := by
  obtain ⟨m1, m2, m3, m4, K', m5⟩ := hm
  have hc : ∀ b, w.heap.size + 1 < b → ∀ o, (putVal (wr.setCell ⟨w.heap.size, 5, none⟩ x) (w.heap.size + 1) 0 u).cell? ⟨b, o, none⟩ = wr.cell? ⟨b, o, none⟩ := fun b hb o =>
    (putVal_other _ _ _ _ _ _ (.inl (by omega))).trans (World.cell?_setCell_other _ _ _ _ (addr_ne (by omega)))
  have hz : (putVal (wr.setCell ⟨w.heap.size, 5, none⟩ x) (w.heap.size + 1) 0 u).heap.size = wr.heap.size := by rw [putVal_size]; simp
  refine ⟨K', ⟨⟨h9, fun _ => ⟨blk, 0, rfl, by omega, by rw [hz]; exact m3⟩, fun i hi => ⟨fun b o e => ?_, ?_⟩⟩, fun hn => ⟨blk, rfl, by omega, fun i hi => ?_, fun i hi => ?_⟩⟩, fun i hi => (m5 i hi).2.2⟩
  · injection e with e
    injection e with e1 e2
    subst e1 e2
    rw [Nat.zero_add]
    exact (m5 i hi).1.keep (hc _ (by omega))
  · exact (m5 i hi).2.1.keep fun b hb => ⟨⟨by omega, by rw [hz]; exact hb.2⟩, hc b (by omega)⟩
  · rw [putVal_frozen, World.frozen?_setCell]
    exact (m4 i hi).2
  · exact (m5 i hi).2.1.keep fun b hb => ⟨⟨hb.1, by rw [hz]; exact hb.2⟩, hc b (by omega)⟩
def zeros (n : Nat) : Array Value := madeCells (Value.agg #[.int .i64 0, .string ⟨#[]⟩, .int .i64 0, .float .f64 0, .bool false, .slice none 0 0]).cells (n * 6)
theorem zeros_size (n : Nat) : (zeros n).size = n * 6 := by
  unfold zeros madeCells
  simp
theorem start_facts (w : World) (k : Int) (t : ByteArray) (z : Int) (r : Nat) (f : Bool) (a : Option Addr) (c n : Nat) (K : Nat → Val) :
    ((w.alloc (.cells #[.int .i64 k, .string t, .int .i64 z, .float .f64 r, .bool f, .slice a n c] 26)).alloc
      (.cells #[.int .i64 0, .string ⟨#[]⟩, .int .i64 0, .float .f64 0, .bool false, .slice none 0 0] 26)).heap.size = w.heap.size + 1 + 1 ∧
    Below w.heap.size w ((w.alloc (.cells #[.int .i64 k, .string t, .int .i64 z, .float .f64 r, .bool f, .slice a n c] 26)).alloc
      (.cells #[.int .i64 0, .string ⟨#[]⟩, .int .i64 0, .float .f64 0, .bool false, .slice none 0 0] 26)) ∧
    At ((w.alloc (.cells #[.int .i64 k, .string t, .int .i64 z, .float .f64 r, .bool f, .slice a n c] 26)).alloc
      (.cells #[.int .i64 0, .string ⟨#[]⟩, .int .i64 0, .float .f64 0, .bool false, .slice none 0 0] 26)) w.heap.size 0 (.mk k t z r f a c n K) ∧
    At ((w.alloc (.cells #[.int .i64 k, .string t, .int .i64 z, .float .f64 r, .bool f, .slice a n c] 26)).alloc
      (.cells #[.int .i64 0, .string ⟨#[]⟩, .int .i64 0, .float .f64 0, .bool false, .slice none 0 0] 26)) (w.heap.size + 1) 0 (.mk 0 ⟨#[]⟩ 0 0 false none 0 0 K) ∧
    (∀ i, i < 6 → ((w.alloc (.cells #[.int .i64 k, .string t, .int .i64 z, .float .f64 r, .bool f, .slice a n c] 26)).alloc
      (.cells #[.int .i64 0, .string ⟨#[]⟩, .int .i64 0, .float .f64 0, .bool false, .slice none 0 0] 26)).frozen? ⟨w.heap.size, i, none⟩ = false) ∧
    (∀ i, i < 6 → ((w.alloc (.cells #[.int .i64 k, .string t, .int .i64 z, .float .f64 r, .bool f, .slice a n c] 26)).alloc
      (.cells #[.int .i64 0, .string ⟨#[]⟩, .int .i64 0, .float .f64 0, .bool false, .slice none 0 0] 26)).frozen? ⟨w.heap.size + 1, i, none⟩ = false) := by
  refine ⟨by simp, ((Below.refl _ _).alloc (Nat.le_refl _) _).alloc (by simp) _, ⟨?_, ?_, ?_, ?_, ?_, ?_⟩, ⟨?_, ?_, ?_, ?_, ?_, ?_⟩, fun i hi => ?_, fun i hi => ?_⟩ <;> go_simp
theorem made_start {W : World} {blk n : Nat} {K : Nat → Val} (h : W.heap.size = blk) (T : TypeId) : Made W blk n 0 K (W.alloc (.cells (zeros n) T)) := by
  subst h
  refine ⟨(Below.refl _ _).alloc (Nat.le_refl _) _, Nat.le_refl _, by simp, fun i hi => ⟨?_, by go_simp⟩, K, fun i hi => absurd hi (by omega)⟩
  rw [World.cell?_alloc_new]
  exact ⟨_, Array.getElem?_eq_getElem (by rw [zeros_size]; exact hi)⟩
end Go.Proofs.YtimgkbpiengnjaaGreatDoor
