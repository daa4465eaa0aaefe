/- Package expiry: what of memory stands (Fr); the heap of dues as it lies; its Len, Less. Conditions: the heap as it lies. -/
import Derived.Test.YtmjlhmohglbecaaGreatDoorEa2
import Derived.Maps.AppendAt
namespace Go.Proofs.YtmjlhmohglbecaaGreatDoor.Ea
open Go.ChangeShapes Go.WideShapes Go.ChangeAt Go.RowKit
theorem bstep {a b c : World} (h : Below a.heap.size a b) (k : Below b.heap.size b c) : Below a.heap.size a c := h.trans (k.mono h.size)
theorem bbox {w : World} (o : Obj) : Below w.heap.size w (w.alloc o) := (Below.refl _ _).alloc (Nat.le_refl _) o
/-- Of w all blocks stand in w' but those that S names. -/
structure Fr (S : Nat → Prop) (w w' : World) : Prop where
  os : w'.os = w.os
  tape : w'.tape = w.tape
  output : w'.output = w.output
  size : w.heap.size ≤ w'.heap.size
  block : ∀ i, i < w.heap.size → ¬ S i → w'.heap[i]? = w.heap[i]?
section
variable {S T : Nat → Prop} {a b c w w' : World}
theorem Fr.refl (S : Nat → Prop) (w : World) : Fr S w w := ⟨rfl, rfl, rfl, Nat.le_refl _, fun _ _ _ => rfl⟩
theorem Fr.below {B : Nat} (h : Fr S w w') (hB : B ≤ w.heap.size) (hS : ∀ i, i < B → ¬ S i) : Below B w w' := ⟨h.os, h.tape, h.output, h.size, fun i hi => h.block i (Nat.lt_of_lt_of_le hi hB) (hS i hi)⟩
theorem Fr.of_below (h : Below w.heap.size w w') : Fr S w w' := ⟨h.os, h.tape, h.output, h.size, fun i hi _ => h.block i hi⟩
theorem Fr.trans (h : Fr S a b) (k : Fr S b c) : Fr S a c :=
  ⟨k.os.trans h.os, k.tape.trans h.tape, k.output.trans h.output, Nat.le_trans h.size k.size, fun i hi hs => (k.block i (Nat.lt_of_lt_of_le hi h.size) hs).trans (h.block i hi hs)⟩
theorem Fr.mono (h : Fr S a b) (hST : ∀ i, S i → T i) : Fr T a b := ⟨h.os, h.tape, h.output, h.size, fun i hi hs => h.block i hi fun hx => hs (hST i hx)⟩
theorem Fr.mono2 (h : Fr S a b) (hST : ∀ i, i < a.heap.size → S i → T i) : Fr T a b := ⟨h.os, h.tape, h.output, h.size, fun i hi hs => h.block i hi fun hx => hs (hST i hi hx)⟩
theorem Fr.trans2 (h : Fr S a b) (k : Fr T b c) (hST : ∀ i, i < a.heap.size → T i → S i) : Fr S a c :=
  ⟨k.os.trans h.os, k.tape.trans h.tape, k.output.trans h.output, Nat.le_trans h.size k.size, fun i hi hs => (k.block i (Nat.lt_of_lt_of_le hi h.size) (fun ht => hs (hST i hi ht))).trans (h.block i hi hs)⟩
theorem Fr.setCell (w : World) (p : Addr) (hp : S p.block) (v : Value) : Fr S w (w.setCell p v) := by
  have h := Below.setCell (p := p) (Below.refl p.block w) (Nat.le_refl _) v
  exact ⟨h.os, h.tape, h.output, h.size, fun i _ hs => Below.heap_setCell w p v i (fun e => hs (e ▸ hp))⟩
theorem Fr.drew (w : World) : Fr S w w.drew := ⟨rfl, rfl, rfl, Nat.le_refl _, fun _ _ _ => rfl⟩
theorem Fr.grown {r : Option Nat} (h : w.grownBy w' r) (hS : ∀ i, r = some i → S i) : Fr S w w' := ⟨h.os, h.tape, h.output, h.size, fun i hi hs => h.block i hi fun e => hs (hS i e.symm)⟩
theorem Fr.cell (h : Fr S w w') {x j : Nat} {v : Value} (hx : ¬ S x) (hc : w.cell? ⟨x, j, none⟩ = some v) : w'.cell? ⟨x, j, none⟩ = some v := by
  have := h.block x (World.block_lt_of_cell? w _ hc) hx
  simp only [World.cell?, this] at hc ⊢
  exact hc
theorem Fr.frozen (h : Fr S w w') {x j : Nat} (hx : ¬ S x) (hl : x < w.heap.size) : w'.frozen? ⟨x, j, none⟩ = w.frozen? ⟨x, j, none⟩ := World.frozen?_of_block (a := ⟨x, j, none⟩) (h.block x hl hx)
end
theorem row_block {w w' : World} {base : Nat} {e : TypeId} {size n : Nat} {v : Value} {xs : List Value} (h : w.ownsRow base e size v n xs) (k : ∀ g, v.ownBlock = some g → w'.heap[g]? = w.heap[g]?) : w'.ownsRow base e size v n xs := by
  refine ⟨h.1, ?_⟩
  rcases h.2 with h' | ⟨g, cap, cur, rfl, hb, hg, hnc, hcm, hcs, ht⟩
  · exact .inl h'
  · exact .inr ⟨g, cap, cur, rfl, hb, (k g rfl).trans hg, hnc, hcm, hcs, ht⟩
theorem row_lt {w : World} {base : Nat} {e : TypeId} {size n : Nat} {v : Value} {xs : List Value} (h : w.ownsRow base e size v n xs) {g : Nat} (hg : v.ownBlock = some g) : g < w.heap.size := (h.lt g hg).2
def ptr (b : Nat) : Value := .pointer (some ⟨b, 0, none⟩)
/-- A due in its block, at its place. -/
structure NdE (w : World) (e : En) (i : Nat) : Prop where
  c0 : w.cell? ⟨e.b, 0, none⟩ = some (.int .i64 e.t)
  c1 : w.cell? ⟨e.b, 1, none⟩ = some (.string e.k)
  c2 : w.cell? ⟨e.b, 2, none⟩ = some (.int .i64 i)
  fz : ∀ j, w.frozen? ⟨e.b, j, none⟩ = false
theorem NdE.keep {w w' : World} {e : En} {i : Nat} (h : NdE w e i) (hb : w'.heap[e.b]? = w.heap[e.b]?) : NdE w' e i :=
  ⟨(World.cell?_of_block (a := ⟨e.b, 0, none⟩) hb).trans h.c0, (World.cell?_of_block (a := ⟨e.b, 1, none⟩) hb).trans h.c1, (World.cell?_of_block (a := ⟨e.b, 2, none⟩) hb).trans h.c2, fun j => (World.frozen?_of_block (a := ⟨e.b, j, none⟩) hb).trans (h.fz j)⟩
theorem NdE.lt {w : World} {e : En} {i : Nat} (h : NdE w e i) : e.b < w.heap.size := World.block_lt_of_cell? w _ h.c0
/-- Rows of pointers to dues. -/
def RowP (w : World) (v : Value) (bs : List Nat) : Prop := w.ownsRow 0 135 1 v bs.length (bs.map ptr)
/-- A heap of dues: the slice v, its dues l. -/
structure HpAt (w : World) (v : Value) (l : List En) : Prop where
  row : RowP w v (l.map (·.b))
  nd : ∀ i (h : i < l.length), NdE w l[i] i
  ne : (l.map (·.b)).Nodup
  vn : ∀ e ∈ l, v.ownBlock ≠ some e.b
section
variable {w w' : World} {v : Value} {l : List En}
theorem HpAt.slice (h : HpAt w v l) : ∃ a c, v = .slice a l.length c ∧ l.length ≤ c ∧ c ≤ 9223372036854775807 ∧ ∀ i (hi : i < l.length), ∃ g, a = some ⟨g, 0, none⟩ ∧ w.cell? ⟨g, i, none⟩ = some (ptr l[i].b) ∧ w.frozen? ⟨g, i, none⟩ = false := by
  have hr := h.row
  unfold RowP at hr
  rw [List.length_map] at hr
  rcases hr.2 with ⟨e, hn⟩ | ⟨g, cap, cur, e, -, -, h1, h2, -, -⟩
  · exact ⟨none, 0, by rw [e, hn], by omega, Nat.zero_le _, fun i hi => absurd hi (by omega)⟩
  · subst e
    refine ⟨_, cap, rfl, h1, by unfold maxLen at h2; omega, fun i hi => ⟨g, rfl, ?_, hr.frozenAt i⟩⟩
    rw [hr.cellAt i (by omega)]
    simp [hi]
theorem HpAt.keep (h : HpAt w v l) (hv : ∀ g, v.ownBlock = some g → w'.heap[g]? = w.heap[g]?) (hl : ∀ e ∈ l, w'.heap[e.b]? = w.heap[e.b]?) : HpAt w' v l :=
  ⟨row_block h.row hv, fun i hi => (h.nd i hi).keep (hl _ (List.getElem_mem hi)), h.ne, h.vn⟩
theorem HpAt.blk (h : HpAt w v l) {e : En} (he : e ∈ l) : e.b < w.heap.size := by
  obtain ⟨i, hi, rfl⟩ := List.mem_iff_getElem.1 he
  exact (h.nd i hi).lt
theorem HpAt.below (h : HpAt w v l) (hb : Below w.heap.size w w') : HpAt w' v l := h.keep (fun _ hg => hb.block _ (row_lt h.row hg)) fun _ he => hb.block _ (h.blk he)
theorem HpAt.inj (h : HpAt w v l) {i j : Nat} (hi : i < l.length) (hj : j < l.length) (e : l[i].b = l[j].b) : i = j :=
  (List.getElem_inj (h₀ := by rw [List.length_map]; exact hi) (h₁ := by rw [List.length_map]; exact hj) h.ne (i := i) (j := j)).1 (by simpa using e)
end
set_option maxHeartbeats 4000000 in
set_option maxRecDepth 100000 in
theorem hlen_calls {w : World} {v : Value} {l : List En} (h : HpAt w v l) :
    Calls Tryz.prog 170 #[v] w fun e w' => e = .returned (.int .i64 l.length) ∧ w = w' := by
  obtain ⟨a, c, rfl, -, -, -⟩ := h.slice
  clear h
  go_enter Tryz.func170, Tryz.ntmps170
  go_wp2_with fail
  go_ret
  exact ⟨rfl, rfl⟩
set_option maxHeartbeats 4000000 in
set_option maxRecDepth 100000 in
theorem hless_calls {w : World} {v : Value} {l : List En} (h : HpAt w v l) (i j : Nat) (hi : i < l.length) (hj : j < l.length) :
    Calls Tryz.prog 171 #[v, .int .i64 i, .int .i64 j] w fun e w' => e = .returned (.bool (ltN l[i] l[j])) ∧ Below w.heap.size w w' := by
  obtain ⟨a, c, rfl, -, -, hat⟩ := h.slice
  obtain ⟨g, rfl, d0, -⟩ := hat i hi
  obtain ⟨g', e, d1, -⟩ := hat j hj
  cases e
  have i0 := (h.nd i hi).c0
  have i1 := (h.nd i hi).c1
  have j0 := (h.nd j hj).c0
  have j1 := (h.nd j hj).c1
  have bi : (i : Int) < (l.length : Int) := by omega
  have bj : (j : Int) < (l.length : Int) := by omega
  clear hat h
  have HL : Hid (ltN l[i] l[j] = ltE (l[i].t, l[i].k) (l[j].t, l[j].k)) := Lib.hid rfl
  generalize ltN l[i] l[j] = r at *
  unfold ptr at d0 d1
  generalize l[i].b = x at *
  generalize l[i].t = t at *
  generalize l[i].k = k at *
  generalize l[j].b = y at *
  generalize l[j].t = t' at *
  generalize l[j].k = k' at *
  generalize l.length = n at *
  by_cases ht : t = t'
  case pos =>
    have hte : (t != t') = false := by simp [ht]
    go_enter Tryz.func171, Tryz.ntmps171
    go_wp2_with fail
    go_quiet (fail)
    go_wp2_with fail
    go_quiet (fail)
    go_wp2_with fail
    go_ret
    subst ht
    refine ⟨by rw [HL.out, ltE, if_pos rfl]; rfl, ⟨rfl, rfl, rfl, Nat.le_refl _, fun _ _ => rfl⟩⟩
  case neg =>
    have hte : (t != t') = true := by simp [ht]
    go_enter Tryz.func171, Tryz.ntmps171
    go_wp2_with fail
    go_quiet (fail)
    go_wp2_with fail
    go_quiet (fail)
    go_wp2_with fail
    go_ret
    refine ⟨by rw [HL.out, ltE, if_neg ht]; try rfl, ⟨rfl, rfl, rfl, Nat.le_refl _, fun _ _ => rfl⟩⟩
end Go.Proofs.YtmjlhmohglbecaaGreatDoor.Ea
/- Package expiry: the heap's Swap. Conditions: the heap as it lies. -/
namespace Go.Proofs.YtmjlhmohglbecaaGreatDoor.Ea
open Go.ChangeShapes Go.WideShapes Go.ChangeAt Go.RowKit
theorem addr_ne {b c i j : Nat} (h : b ≠ c ∨ i ≠ j) : (⟨b, i, none⟩ : Addr) ≠ ⟨c, j, none⟩ := by
  intro e
  injection e with e1 e2
  rcases h with h | h
  · exact h e1
  · exact h e2
/-- Two cells hold other values now (or one does); all others, and what is frozen, stand. -/
structure Set2 (a b : Addr) (u v : Value) (w w' : World) : Prop where
  ca : w'.cell? a = some u
  cb : w'.cell? b = some v
  ot : ∀ x, x ≠ a → x ≠ b → w'.cell? x = w.cell? x
  fz : ∀ x, w'.frozen? x = w.frozen? x
  fr : Fr (fun i => i = a.block ∨ i = b.block) w w'
theorem cell_set {w : World} {a b : Addr} {u v y : Value} (h : a ≠ b ∨ u = v) (hb : w.cell? b = some y) (ha : a = b → w.cell? a = some y) : (w.setCell a u).cell? b = some (if a = b then v else y) := by
  by_cases e : a = b
  · subst e
    rcases h with h | h
    · exact absurd rfl h
    · rw [if_pos rfl, ← h]; exact World.cell?_setCell_same w a u hb
  · rw [if_neg e]; exact (World.cell?_setCell_other _ _ _ _ e).trans hb
theorem set2_of (w : World) {a b : Addr} {u v x y : Value} (hne : a ≠ b ∨ u = v) (ha : w.cell? a = some x) (hb : w.cell? b = some y) : Set2 a b u v w ((w.setCell a u).setCell b v) := by
  refine ⟨?_, ?_, fun z h1 h2 => ?_, fun z => ?_, (Fr.setCell w a (.inl rfl) u).trans (Fr.setCell _ b (.inr rfl) v)⟩
  · by_cases e : a = b
    · subst e
      rcases hne with h | h
      · exact absurd rfl h
      · subst h; exact World.cell?_setCell_same _ a u (World.cell?_setCell_same w a u ha)
    · rw [World.cell?_setCell_other _ _ _ _ (Ne.symm e)]
      exact World.cell?_setCell_same w a u ha
  · by_cases e : a = b
    · subst e; exact World.cell?_setCell_same _ a v (World.cell?_setCell_same w a u ha)
    · exact World.cell?_setCell_same _ b v ((World.cell?_setCell_other _ _ _ _ e).trans hb)
  · rw [World.cell?_setCell_other _ _ _ _ (Ne.symm h2), World.cell?_setCell_other _ _ _ _ (Ne.symm h1)]
  · rw [World.frozen?_setCell, World.frozen?_setCell]
theorem set2_of' (w : World) {a b : Addr} {u v x y : Value} (hne : a ≠ b ∨ u = v) (ha : w.cell? a = some x) (hb : w.cell? b = some y) : Set2 a b u v w ((w.setCell b v).setCell a u) := by
  have h := set2_of w (u := v) (v := u) (hne.imp Ne.symm Eq.symm) hb ha
  exact ⟨h.cb, h.ca, fun z h1 h2 => h.ot z h2 h1, h.fz, h.fr.mono fun i => Or.symm⟩
theorem Set2.drew {a b : Addr} {u v : Value} {w w' : World} (h : Set2 a b u v w w') : Set2 a b u v w w'.drew := ⟨h.ca, h.cb, h.ot, h.fz, h.fr.trans (Fr.drew w')⟩
set_option maxHeartbeats 4000000 in
set_option maxRecDepth 100000 in
theorem swap_walk (w : World) (g c n i j x y : Nat) (p q : Value) (hi : i < n) (hj : j < n) (hx : x ≠ g) (hy : y ≠ g) (hxy : x = y ↔ i = j) (d0 : w.cell? ⟨g, i, none⟩ = some (ptr x)) (d1 : w.cell? ⟨g, j, none⟩ = some (ptr y)) (f : ∀ j, w.frozen? ⟨g, j, none⟩ = false)
    (cx : w.cell? ⟨x, 1 + 1, none⟩ = some p) (cy : w.cell? ⟨y, 1 + 1, none⟩ = some q) (fx : ∀ j, w.frozen? ⟨x, j, none⟩ = false) (fy : ∀ j, w.frozen? ⟨y, j, none⟩ = false) :
    Calls Tryz.prog 172 #[.slice (some ⟨g, 0, none⟩) n c, .int .i64 i, .int .i64 j] w fun e w' => e = .returned (.tuple #[]) ∧ ∃ W, W = ((w.setCell ⟨g, i, none⟩ (ptr y)).setCell ⟨g, j, none⟩ (ptr x)).drew ∧ Set2 ⟨g, i, none⟩ ⟨g, j, none⟩ (ptr y) (ptr x) w W ∧ Set2 ⟨y, 2, none⟩ ⟨x, 2, none⟩ (.int .i64 i) (.int .i64 j) W w' := by
  have bi : (i : Int) < (n : Int) := by omega
  have bj : (j : Int) < (n : Int) := by omega
  have hpq : x = y → p = q := fun e => by subst e; rw [cx] at cy; exact Option.some.inj cy
  unfold ptr at *
  have hne : (⟨g, i, none⟩ : Addr) ≠ ⟨g, j, none⟩ ∨ (Value.pointer (some ⟨y, 0, none⟩)) = .pointer (some ⟨x, 0, none⟩) := by
    by_cases e : i = j
    · exact .inr (by rw [hxy.2 e])
    · exact .inl (addr_ne (.inr e))
  have s1 : (w.setCell ⟨g, i, none⟩ (.pointer (some ⟨y, 0, none⟩))).cell? ⟨g, j, none⟩ = some (.pointer (some ⟨y, 0, none⟩)) := by
    by_cases e : i = j
    · rw [e]; exact World.cell?_setCell_same _ _ _ d1
    · exact (World.cell?_setCell_other _ _ _ _ (addr_ne (.inr e))).trans d1
  have f1 := f i
  have f2 := f j
  have HS := Lib.hid (set2_of w hne d0 d1)
  have HF : Hid (∀ j, w.frozen? ⟨g, j, none⟩ = false) := Lib.hid f
  have HX : Hid (w.cell? ⟨x, 1 + 1, none⟩ = some p ∧ w.cell? ⟨y, 1 + 1, none⟩ = some q ∧ (∀ j, w.frozen? ⟨x, j, none⟩ = false) ∧ (∀ j, w.frozen? ⟨y, j, none⟩ = false) ∧ (x = y ↔ i = j) ∧ (x = y → p = q)) := Lib.hid ⟨cx, cy, fx, fy, hxy, hpq⟩
  clear f cx cy fx fy hxy hpq hne
  have HK : Hid (∀ W, Set2 ⟨g, i, none⟩ ⟨g, j, none⟩ (Value.pointer (some ⟨y, 0, none⟩)) (.pointer (some ⟨x, 0, none⟩)) w W → W.cell? ⟨g, i, none⟩ = some (.pointer (some ⟨y, 0, none⟩)) ∧ W.cell? ⟨g, j, none⟩ = some (.pointer (some ⟨x, 0, none⟩)) ∧ W.cell? ⟨x, 2, none⟩ = some p ∧ W.cell? ⟨y, 2, none⟩ = some q ∧ W.frozen? ⟨x, 2, none⟩ = false ∧ W.frozen? ⟨y, 2, none⟩ = false ∧ (W.setCell ⟨y, 2, none⟩ (.int .i64 i)).cell? ⟨x, 2, none⟩ = some (if (⟨y, 2, none⟩ : Addr) = ⟨x, 2, none⟩ then .int .i64 j else p) ∧ (W.setCell ⟨x, 2, none⟩ (.int .i64 j)).cell? ⟨y, 2, none⟩ = some (if (⟨x, 2, none⟩ : Addr) = ⟨y, 2, none⟩ then .int .i64 i else q) ∧ Set2 ⟨y, 2, none⟩ ⟨x, 2, none⟩ (.int .i64 i) (.int .i64 j) W ((W.setCell ⟨y, 2, none⟩ (.int .i64 i)).setCell ⟨x, 2, none⟩ (.int .i64 j)) ∧ Set2 ⟨y, 2, none⟩ ⟨x, 2, none⟩ (.int .i64 i) (.int .i64 j) W ((W.setCell ⟨x, 2, none⟩ (.int .i64 j)).setCell ⟨y, 2, none⟩ (.int .i64 i))) := Lib.hid fun W h => by
    obtain ⟨cx, cy, fx, fy, hxy, hpq⟩ := HX.out
    have ex := (h.ot ⟨x, 2, none⟩ (addr_ne (.inl hx)) (addr_ne (.inl hx))).trans cx
    have ey := (h.ot ⟨y, 2, none⟩ (addr_ne (.inl hy)) (addr_ne (.inl hy))).trans cy
    have hn2 : (⟨y, 2, none⟩ : Addr) ≠ ⟨x, 2, none⟩ ∨ (Value.int .i64 (i : Int)) = .int .i64 j := by
      by_cases e : x = y
      · exact .inr (by rw [hxy.1 e])
      · exact .inl (addr_ne (.inl (Ne.symm e)))
    refine ⟨h.ca, h.cb, ex, ey, (h.fz _).trans (fx 2), (h.fz _).trans (fy 2), cell_set hn2 ex (fun e => by rw [e]; exact ex), cell_set (hn2.imp Ne.symm Eq.symm) ey (fun e => by rw [e]; exact ey), set2_of W hn2 ey ex, set2_of' W hn2 ey ex⟩
  go_enter Tryz.func172, Tryz.ntmps172
  go_wp2_with fail
  go_region
  · have H1 := Lib.hid HS.out.drew
    generalize hW : ((w.setCell ⟨g, i, none⟩ (.pointer (some ⟨y, 0, none⟩))).setCell ⟨g, j, none⟩ (.pointer (some ⟨x, 0, none⟩))).drew = W at *
    obtain ⟨e0, e1, e2, e3, e4, e5, e6, e7, e8, e9⟩ := HK.out W H1.out
    have E8 := Lib.hid e8
    have HW := Lib.hid hW.symm
    clear hW
    have E9 := Lib.hid e9
    clear HK HS HX HF s1 d0 d1 f1 f2 e8 e9
    go_wp2_with fail
    go_region
    all_goals (go_wp2_with fail; go_end0; first | exact ⟨rfl, W, HW.out, H1.out, E8.out.drew⟩ | exact ⟨rfl, W, HW.out, H1.out, E9.out.drew⟩)
/-- The blocks of a heap. -/
def ownH (v : Value) (l : List En) (x : Nat) : Prop := v.ownBlock = some x ∨ ∃ e ∈ l, x = e.b
theorem swp_map {l : List En} {i j : Nat} (hi : i < l.length) (hj : j < l.length) (f : En → Value) : (swp l i j).map f = ((l.map f).set i (f l[j])).set j (f l[i]) := by
  unfold swp
  rw [dif_pos ⟨hi, hj⟩, List.map_set, List.map_set]
theorem hswap_calls {w : World} {v : Value} {l : List En} (h : HpAt w v l) (i j : Nat) (hi : i < l.length) (hj : j < l.length) :
    Calls Tryz.prog 172 #[v, .int .i64 i, .int .i64 j] w fun e w' => e = .returned (.tuple #[]) ∧ HpAt w' v (swp l i j) ∧ Fr (ownH v l) w w' := by
  obtain ⟨a, c, rfl, -, -, hat⟩ := h.slice
  obtain ⟨g, rfl, d0, -⟩ := hat i hi
  have hf : ∀ j, w.frozen? ⟨g, j, none⟩ = false := fun j => by
    have hr := h.row
    unfold RowP at hr
    rw [List.length_map] at hr
    exact hr.frozenAt j
  obtain ⟨g', e, d1, -⟩ := hat j hj
  cases e
  have hng : ∀ k (hk : k < l.length), l[k].b ≠ g := fun k hk e => h.vn _ (List.getElem_mem hk) (by rw [e]; rfl)
  have hxy : l[i].b = l[j].b ↔ i = j := ⟨h.inj hi hj, fun e => by subst e; rfl⟩
  refine (swap_walk w g c l.length i j _ _ _ _ hi hj (hng i hi) (hng j hj) hxy d0 d1 hf (h.nd i hi).c2 (h.nd j hj).c2 (h.nd i hi).fz (h.nd j hj).fz).mono ?_
  rintro e w' ⟨rfl, W, hW, h1, h2⟩
  have hfr : Fr (ownH (.slice (some ⟨g, 0, none⟩) l.length c) l) w w' := by
    refine (h1.fr.mono ?_).trans (h2.fr.mono ?_)
    · rintro k (e | e) <;> exact .inl (congrArg some e.symm)
    · rintro k (e | e)
      · exact .inr ⟨_, List.getElem_mem hj, e⟩
      · exact .inr ⟨_, List.getElem_mem hi, e⟩
  refine ⟨rfl, ⟨?_, fun k hk => ?_, ?_, fun e he => h.vn e (swp_perm.mem_iff.1 he)⟩, hfr⟩
  · have hr := h.row
    unfold RowP at hr ⊢
    rw [List.length_map] at hr ⊢
    have r1 := (hr.stored i (ptr l[j].b)).1
    have r2 := (r1.stored j (ptr l[i].b)).1
    have r3 : W.ownsRow 0 135 1 (.slice (some ⟨g, 0, none⟩) l.length c) l.length (((((l.map (·.b)).map ptr).set i (ptr l[j].b))).set j (ptr l[i].b)) := by
      rw [hW]; exact row_block r2 fun _ _ => rfl
    rw [swp_len, List.map_map, swp_map hi hj (ptr ∘ (·.b)), ← List.map_map]
    refine row_block r3 fun g' hg' => ?_
    cases hg'
    refine h2.fr.block g ?_ ?_
    · have := row_lt r3 (g := g) rfl
      exact this
    · rintro (e | e)
      · exact hng j hj e.symm
      · exact hng i hi e.symm
  · have hk' : k < l.length := by rw [swp_len] at hk; exact hk
    rw [swp_at hi hj hk]
    have base : ∀ m (hm : m < l.length) o, (∀ x, (⟨l[m].b, o, none⟩ : Addr) = ⟨x, 2, none⟩ → False) → w'.cell? ⟨l[m].b, o, none⟩ = w.cell? ⟨l[m].b, o, none⟩ := fun m hm o ho => by
      rw [h2.ot _ (fun e => ho _ e) (fun e => ho _ e), h1.ot _ (addr_ne (.inl (hng m hm))) (addr_ne (.inl (hng m hm)))]
    have nd0 : ∀ m (hm : m < l.length), w'.cell? ⟨l[m].b, 2, none⟩ = some (.int .i64 k) → NdE w' l[m] k := fun m hm h3 =>
      ⟨(base m hm 0 (fun x e => by injection e with _ e; cases e)).trans (h.nd m hm).c0, (base m hm 1 (fun x e => by injection e with _ e; cases e)).trans (h.nd m hm).c1, h3, fun o => (h2.fz _).trans ((h1.fz _).trans ((h.nd m hm).fz o))⟩
    by_cases e1 : k = i
    · subst e1
      rw [if_pos rfl]
      exact nd0 j hj h2.ca
    · rw [if_neg e1]
      by_cases e2 : k = j
      · subst e2
        rw [if_pos rfl]
        exact nd0 i hi h2.cb
      · rw [if_neg e2]
        refine nd0 k hk' ?_
        rw [h2.ot _ (addr_ne (.inl fun e => e2 (h.inj hk' hj e))) (addr_ne (.inl fun e => e1 (h.inj hk' hi e))), h1.ot _ (addr_ne (.inl (hng k hk'))) (addr_ne (.inl (hng k hk')))]
        exact (h.nd k hk').c2
  · exact (swp_perm.map _).nodup_iff.2 h.ne
end Go.Proofs.YtmjlhmohglbecaaGreatDoor.Ea
/- Package expiry: the heap's Push, Pop, behind a pointer. Conditions: the heap as it lies; bounds. -/
namespace Go.Proofs.YtmjlhmohglbecaaGreatDoor.Ea
open Go.ChangeShapes Go.WideShapes Go.ChangeAt Go.RowKit
theorem iPtr : (Tryz.prog.info? 135).map (fun i => (i.zero, i.size, i.bytes)) = some (some (.pointer none), 1, 8) := by kernel_rfl
theorem ptr_push {w : World} {v : Value} {l : List Nat} {ops : Array Oper} {rest : List Oper} {o : Oper} {a : Act} {Q : Exit → Act → World → Prop} (hO : RowP w v l) (hgd : o.guard = none) (s x : Operand)
    (ho : o.op = .call { callee := .builtin .append, args := #[s, x], argTypes := #[138, 138] }) (hs : a.eval s = v) (c : Nat) (Te : TypeId) (hx : a.eval x = .slice (some ⟨w.heap.size, 0, none⟩) 1 1) (hl : l.length ≤ 1000000000)
    (h : ∀ v' w', RowP w' v' (l ++ [c]) → (w.alloc (.cells #[.pointer (some ⟨c, 0, none⟩)] Te)).grownBy w' v.ownBlock → (v'.ownBlock = v.ownBlock ∨ v'.ownBlock = some (w.heap.size + 1)) → wpList Tryz.prog ops Q rest (a.put o.dst v') w') : wpList Tryz.prog ops Q (o :: rest) a (w.alloc (.cells #[.pointer (some ⟨c, 0, none⟩)] Te)) := by
  obtain ⟨i0, hi, hz0, hz1, hz2⟩ := info_parts iPtr
  have hO2 := hO.kept (World.grownBy_alloc w (.cells #[.pointer (some ⟨c, 0, none⟩)] Te) none) (by cases v.ownBlock <;> simp)
  refine wpList_append_own_at _ hgd s x 138 ho 0 135 i0 (.pointer none) 1 8 Tryz.underlying138 hi hz0 hz1 hz2 rfl (by decide) v l.length (l.map ptr) hs hO2 ⟨w.heap.size, 0, none⟩ 1 1 [.pointer (some ⟨c, 0, none⟩)] hx rfl
    (fun j u hj => by rw [Addr.add_lit, Nat.zero_add, World.cell?_alloc_new]; simpa using hj)
    (fun u hu => by
      simp only [List.mem_cons, List.not_mem_nil, or_false] at hu
      subst hu; rfl) (by unfold maxLen; omega) (by omega) (Nat.zero_le _) ?_
  intro v' w' r1 r2 _ r3
  refine h v' w' ?_ r2 (by simpa using r3)
  unfold RowP
  rw [List.map_append, List.length_append]; exact r1
theorem taP (v : Value) (w : World) : (Instr.typeAssert (.iface 135 v) 20 135 false).run Tryz.prog w = .ok v w := by kernel_rfl
theorem taI (v : Value) (w : World) : (Instr.typeAssert (.iface 3 v) 20 3 false).run Tryz.prog w = .ok v w := by kernel_rfl
theorem RowP.form {w : World} {v : Value} {l : List Nat} (h : RowP w v l) : ∃ a n c, v = .slice a n c := by
  rcases h.2 with ⟨e, -⟩ | ⟨g, cap, cur, e, -⟩
  · exact ⟨_, _, _, e⟩
  · exact ⟨_, _, _, e⟩
/-- A heap behind a pointer to block T. -/
structure DAt (w : World) (T : Nat) (v : Value) (l : List En) : Prop where
  hp : HpAt w v l
  c0 : w.cell? ⟨T, 0, none⟩ = some v
  ft : ∀ j, w.frozen? ⟨T, j, none⟩ = false
  tv : v.ownBlock ≠ some T
  tn : ∀ e ∈ l, e.b ≠ T
def ownD (T : Nat) (v : Value) (l : List En) (x : Nat) : Prop := x = T ∨ ownH v l x
/-- A due that stands by itself. -/
structure LoneE (w : World) (e : En) : Prop where
  c0 : w.cell? ⟨e.b, 0, none⟩ = some (.int .i64 e.t)
  c1 : w.cell? ⟨e.b, 1, none⟩ = some (.string e.k)
  c2 : ∃ u, w.cell? ⟨e.b, 2, none⟩ = some u
  fz : ∀ j, w.frozen? ⟨e.b, j, none⟩ = false
section
variable {w w' : World} {T : Nat} {v : Value} {l : List En}
theorem DAt.lt (h : DAt w T v l) : T < w.heap.size := World.block_lt_of_cell? w _ h.c0
theorem DAt.own_lt (h : DAt w T v l) {x : Nat} (hx : ownD T v l x) : x < w.heap.size := by
  rcases hx with rfl | hx | ⟨e, he, rfl⟩
  · exact h.lt
  · exact row_lt h.hp.row hx
  · exact h.hp.blk he
theorem DAt.keep (h : DAt w T v l) (hb : ∀ x, ownD T v l x → w'.heap[x]? = w.heap[x]?) : DAt w' T v l := by
  have hT := hb T (.inl rfl)
  exact ⟨h.hp.keep (fun g hg => hb g (.inr (.inl hg))) (fun e he => hb _ (.inr (.inr ⟨e, he, rfl⟩))), (World.cell?_of_block (a := ⟨T, 0, none⟩) hT).trans h.c0, fun j => (World.frozen?_of_block (a := ⟨T, j, none⟩) hT).trans (h.ft j), h.tv, h.tn⟩
theorem DAt.below (h : DAt w T v l) (hb : Below w.heap.size w w') : DAt w' T v l := h.keep fun x hx => hb.block x (h.own_lt hx)
end
set_option maxHeartbeats 4000000 in
set_option maxRecDepth 100000 in
theorem hpush_calls {w : World} {T : Nat} {v : Value} {l : List En} (h : DAt w T v l) (e : En) (hl : l.length ≤ 1000000000) (he : LoneE w e) (hT : e.b ≠ T) (hv : v.ownBlock ≠ some e.b) (hn : ∀ x ∈ l, x.b ≠ e.b) :
    Calls Tryz.prog 174 #[.pointer (some ⟨T, 0, none⟩), .iface 135 (ptr e.b)] w fun en w' => en = .returned (.tuple #[]) ∧ ∃ v', DAt w' T v' (l ++ [e]) ∧ Fr (fun y => ownD T v l y ∨ y = e.b) w w' ∧ (v'.ownBlock = v.ownBlock ∨ ∃ g, v'.ownBlock = some g ∧ w.heap.size ≤ g) ∧ ∀ j, j ≠ 0 → w'.cell? ⟨T, j, none⟩ = w.cell? ⟨T, j, none⟩ := by
  have hta := taP (ptr e.b)
  have c0 := h.c0
  have c2 := he.c2
  have f2 := he.fz 2
  have ft := h.ft 0
  have HH := Lib.hid h
  have HE := Lib.hid he
  have HN := Lib.hid (And.intro hv hn)
  obtain ⟨a, c, rfl, -, -, -⟩ := h.hp.slice
  obtain ⟨u, c2⟩ := c2
  have hTe : T ≠ e.b := Ne.symm hT
  have HR : Hid (RowP (w.setCell ⟨e.b, 2, none⟩ (.int .i64 l.length)) (.slice a l.length c) (l.map (·.b))) := Lib.hid (row_block h.hp.row fun g hg => by
    have hge : g ≠ e.b := fun e' => hv (by rw [hg, e'])
    exact Below.heap_setCell w _ _ _ hge)
  have HS : Hid ((w.setCell ⟨e.b, 2, none⟩ (.int .i64 l.length)).heap.size = w.heap.size) := Lib.hid (by simp)
  have HF : Hid (Fr (fun y => y = e.b) w (w.setCell ⟨e.b, 2, none⟩ (.int .i64 l.length)) ∧ (w.setCell ⟨e.b, 2, none⟩ (.int .i64 l.length)).cell? ⟨e.b, 2, none⟩ = some (.int .i64 l.length) ∧ (∀ x, x ≠ ⟨e.b, 2, none⟩ → (w.setCell ⟨e.b, 2, none⟩ (.int .i64 l.length)).cell? x = w.cell? x) ∧ ∀ x, (w.setCell ⟨e.b, 2, none⟩ (.int .i64 l.length)).frozen? x = w.frozen? x) := Lib.hid ⟨Fr.setCell (S := fun y => y = e.b) w ⟨e.b, 2, none⟩ rfl _, World.cell?_setCell_same w _ _ c2, fun x hx => World.cell?_setCell_other _ _ _ _ hx.symm, fun x => World.frozen?_setCell _ _ _ _⟩
  have HT := Lib.hid hT
  clear h he hv hn
  unfold ptr at *
  go_enter Tryz.func174, Tryz.ntmps174
  go_wp2_with (at_builtin; refine ptr_push HR.out rfl _ _ rfl rfl e.b _ (by rw [HS.out]; rfl) (by rw [List.length_map]; exact hl) ?_)
  intro v' w2 hr2 hg2 hl2
  obtain ⟨a', n', c', hv'⟩ := hr2.form
  subst hv'
  have hsz1 : ∀ o, ((w.setCell ⟨e.b, 2, none⟩ (.int .i64 l.length)).alloc o).heap.size = w.heap.size + 1 := fun o => by simp
  have hb2 : Fr (fun y => (Value.slice a l.length c).ownBlock = some y) (w.setCell ⟨e.b, 2, none⟩ (.int .i64 l.length)) w2 := (Fr.of_below (bbox _)).trans (Fr.grown hg2 fun i hi => hi)
  have hT2 : w2.heap[T]? = (w.setCell ⟨e.b, 2, none⟩ (.int .i64 l.length)).heap[T]? := hb2.block T (by rw [HS.out]; exact HH.out.lt) HH.out.tv
  have t0 : w2.cell? ⟨T, 0, none⟩ = some (.slice a l.length c) := (World.cell?_of_block (a := ⟨T, 0, none⟩) hT2).trans ((HF.out.2.2.1 _ (addr_ne (.inl hTe))).trans c0)
  have tf : w2.frozen? ⟨T, 0, none⟩ = false := (World.frozen?_of_block (a := ⟨T, 0, none⟩) hT2).trans ((HF.out.2.2.2 _).trans ft)
  have H2 := Lib.hid (And.intro hr2 (And.intro hb2 (And.intro hl2 hT2)))
  clear hr2 hg2 hl2 hsz1 hb2 hT2 hT c0 c2 f2 ft hTe
  go_wp2_with fail
  go_end0
  generalize Value.slice a' n' c' = v' at *
  obtain ⟨hr2, hb2, hl2, hT2⟩ := H2.out
  try rw [HS.out] at hl2
  have hh := HH.out
  obtain ⟨hv, hn⟩ := HN.out
  have hvT : v'.ownBlock ≠ some T := by
    rcases hl2 with e1 | e1
    · rw [e1]; exact hh.tv
    · rw [e1]
      have := hh.lt
      exact fun e2 => by have e3 : w.heap.size + 1 = T := Option.some.inj e2; omega
  have hF3 : Fr (fun y => y = T) w2 (w2.setCell ⟨T, 0, none⟩ v') := Fr.setCell (S := fun y => y = T) w2 ⟨T, 0, none⟩ rfl _
  have hfr : Fr (fun y => ownD T (.slice a l.length c) l y ∨ y = e.b) w (w2.setCell ⟨T, 0, none⟩ v') :=
    ((HF.out.1.mono fun i hi => .inr hi).trans (hb2.mono fun i hi => .inl (.inr (.inl hi)))).trans (hF3.mono fun i hi => .inl (.inl hi))
  refine ⟨rfl, v', ⟨⟨?_, fun i hi => ?_, ?_, fun x hx => ?_⟩, ?_, fun j => ?_, hvT, fun x hx => ?_⟩, hfr, ?_, fun j hj => ?_⟩
  · rw [List.map_append]
    exact row_block hr2 fun g hg => hF3.block g (row_lt hr2 hg) (fun e2 => hvT (by rw [hg, e2]))
  · rw [List.length_append] at hi
    by_cases hil : i < l.length
    · have e1 : (l ++ [e])[i] = l[i] := List.getElem_append_left hil
      rw [e1]
      have hm := List.getElem_mem hil
      refine (hh.hp.nd i hil).keep ?_
      have b1 := HF.out.1.block l[i].b (hh.hp.blk hm) (hn _ hm)
      have b2 := hb2.block l[i].b (by rw [HS.out]; exact hh.hp.blk hm) (hh.hp.vn _ hm)
      have b3 := hF3.block l[i].b (Nat.lt_of_lt_of_le (by rw [HS.out]; exact hh.hp.blk hm) hb2.size) (hh.tn _ hm)
      exact b3.trans (b2.trans b1)
    · have e0 : i = l.length := by simp at hi; omega
      subst e0
      have e1 : (l ++ [e])[l.length] = e := by simp
      rw [e1]
      have hle : e.b < w.heap.size := World.block_lt_of_cell? w _ HE.out.c0
      have b2 := hb2.block e.b (by rw [HS.out]; exact hle) hv
      have b3 := hF3.block e.b (Nat.lt_of_lt_of_le (by rw [HS.out]; exact hle) hb2.size) HT.out
      have bb : ∀ j, (w2.setCell ⟨T, 0, none⟩ v').cell? ⟨e.b, j, none⟩ = (w.setCell ⟨e.b, 2, none⟩ (.int .i64 l.length)).cell? ⟨e.b, j, none⟩ := fun j => World.cell?_of_block (a := ⟨e.b, j, none⟩) (b3.trans b2)
      refine ⟨(bb 0).trans ((HF.out.2.2.1 _ (addr_ne (.inr (by decide)))).trans HE.out.c0), (bb 1).trans ((HF.out.2.2.1 _ (addr_ne (.inr (by decide)))).trans HE.out.c1), (bb 2).trans HF.out.2.1, fun j => ?_⟩
      exact (World.frozen?_of_block (a := ⟨e.b, j, none⟩) (b3.trans b2)).trans ((HF.out.2.2.2 _).trans (HE.out.fz j))
  · rw [List.map_append]
    refine List.nodup_append.2 ⟨hh.hp.ne, by simp, fun x hx y hy e2 => ?_⟩
    obtain ⟨z, hz, rfl⟩ := List.mem_map.1 hx
    have hy : y = e.b := by simpa using hy
    exact hn z hz (e2.trans hy)
  · have hxw : x.b < w.heap.size := by
      rcases List.mem_append.1 hx with h1 | h1
      · exact hh.hp.blk h1
      · have : x = e := by simpa using h1
        subst this
        exact World.block_lt_of_cell? w _ HE.out.c0
    rcases hl2 with e1 | e1
    · rw [e1]
      rcases List.mem_append.1 hx with h1 | h1
      · exact hh.hp.vn x h1
      · have : x = e := by simpa using h1
        subst this; exact hv
    · rw [e1]
      exact fun e2 => by have e3 : w.heap.size + 1 = x.b := Option.some.inj e2; omega
  · exact World.cell?_setCell_same _ _ _ t0
  · rw [World.frozen?_setCell]
    exact (World.frozen?_of_block (a := ⟨T, j, none⟩) hT2).trans ((HF.out.2.2.2 _).trans (hh.ft j))
  · rcases List.mem_append.1 hx with h1 | h1
    · exact hh.tn x h1
    · have : x = e := by simpa using h1
      subst this; exact HT.out
  · rcases hl2 with e1 | e1
    · exact .inl e1
    · exact .inr ⟨_, e1, by omega⟩
  · rw [World.cell?_setCell_other _ _ _ _ (addr_ne (.inr (Ne.symm hj)))]
    exact (World.cell?_of_block (a := ⟨T, j, none⟩) hT2).trans (HF.out.2.2.1 _ (addr_ne (.inl (Ne.symm HT.out))))
end Go.Proofs.YtmjlhmohglbecaaGreatDoor.Ea
/- Package expiry: the heap's Pop, behind a pointer. Conditions: the heap as it lies; bounds. -/
namespace Go.Proofs.YtmjlhmohglbecaaGreatDoor.Ea
open Go.ChangeShapes Go.WideShapes Go.ChangeAt Go.RowKit
/-- A row cut behind its k-th. -/
theorem row_cut {w : World} {base : Nat} {e : TypeId} {size n cap : Nat} {a : Option Addr} {xs : List Value} (h : w.ownsRow base e size (.slice a n cap) n xs) {k : Nat} (hk : k ≤ n) : w.ownsRow base e size (.slice a k cap) k (xs.take (k * size)) := by
  have hle : k * size ≤ n * size := Nat.mul_le_mul_right _ hk
  rcases h.2 with ⟨h', h0⟩ | ⟨g, cap', cur, h', hb, hg, hnc, hcm, hcs, htake⟩
  · subst h0
    obtain rfl : k = 0 := by omega
    refine ⟨by simp, .inl ⟨?_, rfl⟩⟩
    exact h'
  · simp only [Value.slice.injEq, true_and] at h'
    obtain ⟨rfl, rfl⟩ := h'
    refine ⟨by have := h.1; rw [List.length_take]; omega, .inr ⟨g, cap, cur, rfl, hb, hg, Nat.le_trans hk hnc, hcm, hcs, ?_⟩⟩
    rw [← htake, List.take_take, Nat.min_eq_left hle]
set_option maxHeartbeats 4000000 in
set_option maxRecDepth 100000 in
theorem hpop_calls {w : World} {T : Nat} {v : Value} {l : List En} {e : En} (h : DAt w T v (l ++ [e])) :
    Calls Tryz.prog 173 #[.pointer (some ⟨T, 0, none⟩)] w fun en w' => en = .returned (.iface 135 (ptr e.b)) ∧ ∃ v', DAt w' T v' l ∧ v'.ownBlock = v.ownBlock ∧ Fr (fun y => y = T ∨ v.ownBlock = some y) w w' ∧ ∀ j, j ≠ 0 → w'.cell? ⟨T, j, none⟩ = w.cell? ⟨T, j, none⟩ := by
  have hlen : (l ++ [e]).length = l.length + 1 := by simp
  obtain ⟨a, c, rfl, hc1, hc2, hat⟩ := h.hp.slice
  obtain ⟨g, rfl, d0, fg⟩ := hat l.length (by omega)
  have e1 : (l ++ [e])[l.length]'(by omega) = e := by simp
  rw [e1] at d0
  rw [hlen] at hc1
  have hl : l.length + 1 ≤ 9223372036854775807 := by omega
  have c0 := h.c0
  have ft := h.ft 0
  rw [hlen] at c0
  have hgT : T ≠ g := fun e2 => h.tv (by rw [e2]; rfl)
  have t0 : (w.setCell ⟨g, l.length, none⟩ (.pointer none)).cell? ⟨T, 0, none⟩ = some (.slice (some ⟨g, 0, none⟩) (l.length + 1) c) := (World.cell?_setCell_other _ _ _ _ (addr_ne (.inl (Ne.symm hgT)))).trans c0
  have HR : Hid (RowP (w.setCell ⟨g, l.length, none⟩ (.pointer none)) (.slice (some ⟨g, 0, none⟩) l.length c) (l.map (·.b))) := Lib.hid (by
    have hr := h.hp.row
    unfold RowP at hr ⊢
    rw [List.length_map, hlen] at hr
    have r1 := row_cut (hr.stored l.length (.pointer none)).1 (Nat.le_succ l.length)
    rw [List.length_map]
    have e2 : ((((l ++ [e]).map (·.b)).map ptr).set l.length (.pointer none)).take (l.length * 1) = (l.map (·.b)).map ptr := by
      rw [Nat.mul_one, List.take_set_of_le (Nat.le_refl _), List.map_append, List.map_append]
      have : l.length = ((l.map (·.b)).map ptr).length := by simp
      rw [this]; exact List.take_left
    rw [e2] at r1
    exact r1)
  have HH := Lib.hid h
  have HS : Hid ((w.setCell ⟨g, l.length, none⟩ (.pointer none)).heap.size = w.heap.size) := Lib.hid (by simp)
  have HF : Hid (Fr (fun y => y = g) w (w.setCell ⟨g, l.length, none⟩ (.pointer none))) := Lib.hid (Fr.setCell (S := fun y => y = g) w ⟨g, l.length, none⟩ rfl _)
  clear h hat
  rw [hlen] at *
  have b1 : (((l.length + 1 : Nat) : Int) - 1) = (l.length : Int) := by omega
  have b2 : (l.length : Int) < ((l.length + 1 : Nat) : Int) := by omega
  have b3 : ¬ ((c : Int) < (l.length : Int)) := by omega
  have b4 : (l.length : Int) ≤ (c : Int) := by omega
  have b5 : l.length ≤ c := by omega
  unfold ptr at *
  go_enter Tryz.func173, Tryz.ntmps173
  go_wp2_with fail
  go_ret
  have hh := HH.out
  have hF2 : Fr (fun y => y = T) (w.setCell ⟨g, l.length, none⟩ (.pointer none)) ((w.setCell ⟨g, l.length, none⟩ (.pointer none)).setCell ⟨T, 0, none⟩ (.slice (some ⟨g, 0, none⟩) l.length c)) := Fr.setCell (S := fun y => y = T) _ ⟨T, 0, none⟩ rfl _
  refine ⟨rfl, .slice (some ⟨g, 0, none⟩) l.length c, ⟨⟨?_, fun i hi => ?_, ?_, fun x hx => ?_⟩, ?_, fun j => ?_, ?_, fun x hx => ?_⟩, rfl, ?_, fun j hj => ?_⟩
  · exact row_block HR.out fun g' hg' => hF2.block g' (row_lt HR.out hg') (fun e2 => by
      have e3 : g = g' := Option.some.inj hg'
      exact hgT (by rw [e3, e2]))
  · have hm : l[i] ∈ l ++ [e] := List.mem_append_left _ (List.getElem_mem hi)
    have e1 : (l ++ [e])[i]'(by simp; omega) = l[i] := List.getElem_append_left hi
    have h1 := hh.hp.nd i (by simp; omega)
    rw [e1] at h1
    have hbl := hh.hp.blk hm
    refine h1.keep ((hF2.block _ (by rw [HS.out]; exact hbl) (hh.tn _ hm)).trans (HF.out.block _ hbl fun e2 => hh.hp.vn _ hm (by rw [e2]; rfl)))
  · have := hh.hp.ne
    rw [List.map_append] at this
    exact (List.nodup_append.1 this).1
  · exact hh.hp.vn x (List.mem_append_left _ hx)
  · exact World.cell?_setCell_same _ _ _ t0
  · rw [World.frozen?_setCell, World.frozen?_setCell]; exact hh.ft j
  · exact hh.tv
  · exact hh.tn x (List.mem_append_left _ hx)
  · exact (HF.out.mono fun i hi => .inr (congrArg some hi.symm)).trans (hF2.mono fun i hi => .inl hi)
  · rw [World.cell?_setCell_other _ _ _ _ (addr_ne (.inr (Ne.symm hj))), World.cell?_setCell_other _ _ _ _ (addr_ne (.inl (Ne.symm hgT)))]
end Go.Proofs.YtmjlhmohglbecaaGreatDoor.Ea
