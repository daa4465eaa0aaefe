/- Package expiry: what of memory stands (Fr); the heap of dues as it lies; its Len, Less. Conditions: the heap as it lies. -/
import Derived.Test.YtabhnnffohnecaaEa2
namespace Go.Proofs.Ytabhnnffohnecaa.Ea
open Go.ChangeShapes Go.WideShapes Go.ChangeAt Go.RowKit
theorem bstep {a b c : World} (h : Below a.heap.size a b) (k : Below b.heap.size b c) : Below a.heap.size a c := h.trans (k.mono h.size)
theorem bbox {w : World} (o : Obj) : Below w.heap.size w (w.alloc o) := (Below.refl _ _).alloc (Nat.le_refl _) o
/-- Of w all blocks stand in w' but those that S names. -/
structure Fr (S : Nat → Prop) (w w' : World) : Prop where
  os : w'.os = w.os
  tape : w'.tape = w.tape
  output : w'.output = w.output
  size : w.heap.size ≤ w'.heap.size
  block : ∀ i, i < w.heap.size → ¬ S i → w'.heap[i]? = w.heap[i]?
section
variable {S T : Nat → Prop} {a b c w w' : World}
theorem Fr.refl (S : Nat → Prop) (w : World) : Fr S w w := ⟨rfl, rfl, rfl, Nat.le_refl _, fun _ _ _ => rfl⟩
theorem Fr.below {B : Nat} (h : Fr S w w') (hB : B ≤ w.heap.size) (hS : ∀ i, i < B → ¬ S i) : Below B w w' := ⟨h.os, h.tape, h.output, h.size, fun i hi => h.block i (Nat.lt_of_lt_of_le hi hB) (hS i hi)⟩
theorem Fr.of_below (h : Below w.heap.size w w') : Fr S w w' := ⟨h.os, h.tape, h.output, h.size, fun i hi _ => h.block i hi⟩
theorem Fr.trans (h : Fr S a b) (k : Fr S b c) : Fr S a c :=
  ⟨k.os.trans h.os, k.tape.trans h.tape, k.output.trans h.output, Nat.le_trans h.size k.size, fun i hi hs => (k.block i (Nat.lt_of_lt_of_le hi h.size) hs).trans (h.block i hi hs)⟩
theorem Fr.mono (h : Fr S a b) (hST : ∀ i, S i → T i) : Fr T a b := ⟨h.os, h.tape, h.output, h.size, fun i hi hs => h.block i hi fun hx => hs (hST i hx)⟩
theorem Fr.mono2 (h : Fr S a b) (hST : ∀ i, i < a.heap.size → S i → T i) : Fr T a b := ⟨h.os, h.tape, h.output, h.size, fun i hi hs => h.block i hi fun hx => hs (hST i hi hx)⟩
theorem Fr.trans2 (h : Fr S a b) (k : Fr T b c) (hST : ∀ i, i < a.heap.size → T i → S i) : Fr S a c :=
  ⟨k.os.trans h.os, k.tape.trans h.tape, k.output.trans h.output, Nat.le_trans h.size k.size, fun i hi hs => (k.block i (Nat.lt_of_lt_of_le hi h.size) (fun ht => hs (hST i hi ht))).trans (h.block i hi hs)⟩
theorem Fr.setCell (w : World) (p : Addr) (hp : S p.block) (v : Value) : Fr S w (w.setCell p v) := by
  have h := Below.setCell (p := p) (Below.refl p.block w) (Nat.le_refl _) v
  exact ⟨h.os, h.tape, h.output, h.size, fun i _ hs => Below.heap_setCell w p v i (fun e => hs (e ▸ hp))⟩
theorem Fr.drew (w : World) : Fr S w w.drew := ⟨rfl, rfl, rfl, Nat.le_refl _, fun _ _ _ => rfl⟩
theorem Fr.grown {r : Option Nat} (h : w.grownBy w' r) (hS : ∀ i, r = some i → S i) : Fr S w w' := ⟨h.os, h.tape, h.output, h.size, fun i hi hs => h.block i hi fun e => hs (hS i e.symm)⟩
theorem Fr.cell (h : Fr S w w') {x j : Nat} {v : Value} (hx : ¬ S x) (hc : w.cell? ⟨x, j, none⟩ = some v) : w'.cell? ⟨x, j, none⟩ = some v := by
  have := h.block x (World.block_lt_of_cell? w _ hc) hx
  simp only [World.cell?, this] at hc ⊢
  exact hc
theorem Fr.frozen (h : Fr S w w') {x j : Nat} (hx : ¬ S x) (hl : x < w.heap.size) : w'.frozen? ⟨x, j, none⟩ = w.frozen? ⟨x, j, none⟩ := World.frozen?_of_block (a := ⟨x, j, none⟩) (h.block x hl hx)
end
theorem row_block {w w' : World} {base : Nat} {e : TypeId} {size n : Nat} {v : Value} {xs : List Value} (h : w.ownsRow base e size v n xs) (k : ∀ g, v.ownBlock = some g → w'.heap[g]? = w.heap[g]?) : w'.ownsRow base e size v n xs := by
  refine ⟨h.1, ?_⟩
  rcases h.2 with h' | ⟨g, cap, cur, rfl, hb, hg, hnc, hcm, hcs, ht⟩
  · exact .inl h'
  · exact .inr ⟨g, cap, cur, rfl, hb, (k g rfl).trans hg, hnc, hcm, hcs, ht⟩
theorem row_lt {w : World} {base : Nat} {e : TypeId} {size n : Nat} {v : Value} {xs : List Value} (h : w.ownsRow base e size v n xs) {g : Nat} (hg : v.ownBlock = some g) : g < w.heap.size := (h.lt g hg).2
def ptr (b : Nat) : Value := .pointer (some ⟨b, 0, none⟩)
/-- A due in its block, at its place. -/
structure NdE (w : World) (e : En) (i : Nat) : Prop where
  c0 : w.cell? ⟨e.b, 0, none⟩ = some (.int .i64 e.t)
  c1 : w.cell? ⟨e.b, 1, none⟩ = some (.string e.k)
  c2 : w.cell? ⟨e.b, 2, none⟩ = some (.int .i64 i)
  fz : ∀ j, w.frozen? ⟨e.b, j, none⟩ = false
theorem NdE.keep {w w' : World} {e : En} {i : Nat} (h : NdE w e i) (hb : w'.heap[e.b]? = w.heap[e.b]?) : NdE w' e i :=
  ⟨(World.cell?_of_block (a := ⟨e.b, 0, none⟩) hb).trans h.c0, (World.cell?_of_block (a := ⟨e.b, 1, none⟩) hb).trans h.c1, (World.cell?_of_block (a := ⟨e.b, 2, none⟩) hb).trans h.c2, fun j => (World.frozen?_of_block (a := ⟨e.b, j, none⟩) hb).trans (h.fz j)⟩
theorem NdE.lt {w : World} {e : En} {i : Nat} (h : NdE w e i) : e.b < w.heap.size := World.block_lt_of_cell? w _ h.c0
/-- Rows of pointers to dues. -/
def RowP (w : World) (v : Value) (bs : List Nat) : Prop := w.ownsRow 0 61 1 v bs.length (bs.map ptr)
/-- A heap of dues: the slice v, its dues l. -/
structure HpAt (w : World) (v : Value) (l : List En) : Prop where
  row : RowP w v (l.map (·.b))
  nd : ∀ i (h : i < l.length), NdE w l[i] i
  ne : (l.map (·.b)).Nodup
  vn : ∀ e ∈ l, v.ownBlock ≠ some e.b
section
variable {w w' : World} {v : Value} {l : List En}
theorem HpAt.slice (h : HpAt w v l) : ∃ a c, v = .slice a l.length c ∧ l.length ≤ c ∧ c ≤ 9223372036854775807 ∧ ∀ i (hi : i < l.length), ∃ g, a = some ⟨g, 0, none⟩ ∧ w.cell? ⟨g, i, none⟩ = some (ptr l[i].b) ∧ w.frozen? ⟨g, i, none⟩ = false := by
  have hr := h.row
  unfold RowP at hr
  rw [List.length_map] at hr
  rcases hr.2 with ⟨e, hn⟩ | ⟨g, cap, cur, e, -, -, h1, h2, -, -⟩
  · exact ⟨none, 0, by rw [e, hn], by omega, Nat.zero_le _, fun i hi => absurd hi (by omega)⟩
  · subst e
    refine ⟨_, cap, rfl, h1, by unfold maxLen at h2; omega, fun i hi => ⟨g, rfl, ?_, hr.frozenAt i⟩⟩
    rw [hr.cellAt i (by omega)]
    simp [hi]
theorem HpAt.keep (h : HpAt w v l) (hv : ∀ g, v.ownBlock = some g → w'.heap[g]? = w.heap[g]?) (hl : ∀ e ∈ l, w'.heap[e.b]? = w.heap[e.b]?) : HpAt w' v l :=
  ⟨row_block h.row hv, fun i hi => (h.nd i hi).keep (hl _ (List.getElem_mem hi)), h.ne, h.vn⟩
theorem HpAt.blk (h : HpAt w v l) {e : En} (he : e ∈ l) : e.b < w.heap.size := by
  obtain ⟨i, hi, rfl⟩ := List.mem_iff_getElem.1 he
  exact (h.nd i hi).lt
theorem HpAt.below (h : HpAt w v l) (hb : Below w.heap.size w w') : HpAt w' v l := h.keep (fun _ hg => hb.block _ (row_lt h.row hg)) fun _ he => hb.block _ (h.blk he)
theorem HpAt.inj (h : HpAt w v l) {i j : Nat} (hi : i < l.length) (hj : j < l.length) (e : l[i].b = l[j].b) : i = j :=
  (List.getElem_inj (h₀ := by rw [List.length_map]; exact hi) (h₁ := by rw [List.length_map]; exact hj) h.ne (i := i) (j := j)).1 (by simpa using e)
end
set_option maxHeartbeats 4000000 in
set_option maxRecDepth 100000 in
theorem hlen_calls {w : World} {v : Value} {l : List En} (h : HpAt w v l) :
    Calls Try.prog 47 #[v] w fun e w' => e = .returned (.int .i64 l.length) ∧ w = w' := by
  obtain ⟨a, c, rfl, -, -, -⟩ := h.slice
  clear h
  go_enter Try.func47, Try.ntmps47
  go_wp2_with fail
  go_ret
  exact ⟨rfl, rfl⟩
set_option maxHeartbeats 4000000 in
set_option maxRecDepth 100000 in
theorem hless_calls {w : World} {v : Value} {l : List En} (h : HpAt w v l) (i j : Nat) (hi : i < l.length) (hj : j < l.length) :
    Calls Try.prog 48 #[v, .int .i64 i, .int .i64 j] w fun e w' => e = .returned (.bool (ltN l[i] l[j])) ∧ Below w.heap.size w w' := by
  obtain ⟨a, c, rfl, -, -, hat⟩ := h.slice
  obtain ⟨g, rfl, d0, -⟩ := hat i hi
  obtain ⟨g', e, d1, -⟩ := hat j hj
  cases e
  have i0 := (h.nd i hi).c0
  have i1 := (h.nd i hi).c1
  have j0 := (h.nd j hj).c0
  have j1 := (h.nd j hj).c1
  have bi : (i : Int) < (l.length : Int) := by omega
  have bj : (j : Int) < (l.length : Int) := by omega
  clear hat h
  have HL : Hid (ltN l[i] l[j] = ltE (l[i].t, l[i].k) (l[j].t, l[j].k)) := Lib.hid rfl
  generalize ltN l[i] l[j] = r at *
  unfold ptr at d0 d1
  generalize l[i].b = x at *
  generalize l[i].t = t at *
  generalize l[i].k = k at *
  generalize l[j].b = y at *
  generalize l[j].t = t' at *
  generalize l[j].k = k' at *
  generalize l.length = n at *
  by_cases ht : t = t'
  case pos =>
    have hte : (t != t') = false := by simp [ht]
    go_enter Try.func48, Try.ntmps48
    go_wp2_with fail
    go_quiet (fail)
    go_wp2_with fail
    go_quiet (fail)
    go_wp2_with fail
    go_ret
    subst ht
    refine ⟨by rw [HL.out, ltE, if_pos rfl]; rfl, ⟨rfl, rfl, rfl, Nat.le_refl _, fun _ _ => rfl⟩⟩
  case neg =>
    have hte : (t != t') = true := by simp [ht]
    go_enter Try.func48, Try.ntmps48
    go_wp2_with fail
    go_quiet (fail)
    go_wp2_with fail
    go_quiet (fail)
    go_wp2_with fail
    go_ret
    refine ⟨by rw [HL.out, ltE, if_neg ht]; try rfl, ⟨rfl, rfl, rfl, Nat.le_refl _, fun _ _ => rfl⟩⟩
end Go.Proofs.Ytabhnnffohnecaa.Ea
