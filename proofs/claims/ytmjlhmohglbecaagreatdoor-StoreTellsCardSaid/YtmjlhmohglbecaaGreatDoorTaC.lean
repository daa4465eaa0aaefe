/- Package table: Step. Conditions: what is always so of a table. -/
import Derived.Test.YtmjlhmohglbecaaGreatDoorTaB
import Derived.Test.YtmjlhmohglbecaaGreatDoorWq
import Derived.BigQuiet
import Derived.Test.YtmjlhmohglbecaaGreatDoorWs
import Derived.Deep.DeepCutAuto
import Derived.Deep.Upon
namespace Go.Proofs.YtmjlhmohglbecaaGreatDoor.Ta
open Go.ChangeShapes Go.WideShapes Go.ChangeAt Go.RowKit
/-- The blocks of a table. -/
def own (T G1 G2 : Nat) (s : St) (i : Nat) : Prop := i = T ∨ i = G1 ∨ (0 < s.nxt.length ∧ i = G2)
def mvN : Nat → St → St
  | 0, s => s
  | j + 1, s => mv1 (mvN j s)
theorem quietD {P : Program} {f : FuncId} {args : Array Value} {F : Nat → World} {x : Nat} {v : Value} (h : Calls P f args (F x) fun e w' => e = .returned v ∧ F x = w') : Calls P f args (F x) fun e w' => e = .returned v ∧ ∃ y, w' = F y :=
  h.mono fun _ _ ⟨he, hb⟩ => ⟨he, x, hb.symm⟩
theorem Fr.drewN {S : Nat → Prop} (w : World) (n : Nat) : Fr S w (w.drewN n) := ⟨rfl, rfl, rfl, Nat.le_refl _, fun _ _ _ => rfl⟩
theorem drewN_below (w : World) (n : Nat) : Below w.heap.size w (w.drewN n) := below_drewN (Below.refl _ _) n
/-- What moving one place leaves, where it is an entry. -/
theorem mv_full {w w1 w2 w3 : World} {T G1 G2 : Nat} {u : St} (h : TAt w T G1 G2 u) (hn : 0 < u.nxt.length) (hf : ((pAt u.now u.mv).i == 1) = true) (p1 : PAt w1 T 0 G1 (u.now.set u.mv gravePl) (u.e1 - 1) (u.d1 + 1)) (k1 : Ch T 0 G1 w w1) (hb : Below w1.heap.size w1 w2)
    (p3 : PAt w3 T 3 G2 (u.nxt.set (addI u.nxt (hk (pAt u.now u.mv).k)) ⟨1, (pAt u.now u.mv).k, (pAt u.now u.mv).n⟩) (u.e2 + 1) (addD u.nxt (addI u.nxt (hk (pAt u.now u.mv).k)) u.d2)) (k3 : Ch T 3 G2 w2 w3) :
    w3.cell? ⟨T, 6, none⟩ = some (.int .i64 u.mv) ∧ w3.frozen? ⟨T, 6, none⟩ = false ∧ TAt (w3.setCell ⟨T, 6, none⟩ (.int .i64 ((u.mv : Int) + 1))) T G1 G2 (mv1 u) ∧ Fr (own T G1 G2 u) w (w3.setCell ⟨T, 6, none⟩ (.int .i64 ((u.mv : Int) + 1))) := by
  have hg := h.g hn
  have k2 : Ch T 3 G2 w1 w2 := Ch.of_below p1.lt hb
  have c6 : w3.cell? ⟨T, 6, none⟩ = some (.int .i64 u.mv) := (k3.ot 6 (by omega)).trans ((hb.cell (p := ⟨T, 6, none⟩) p1.lt).trans ((k1.ot 6 (by omega)).trans h.m))
  have fr0 : ∀ i, (w3.setCell ⟨T, 6, none⟩ (.int .i64 ((u.mv : Int) + 1))).frozen? ⟨T, i, none⟩ = w3.frozen? ⟨T, i, none⟩ := fun i => World.frozen?_setCell ..
  have ce0 : ∀ i, i ≠ 6 → (w3.setCell ⟨T, 6, none⟩ (.int .i64 ((u.mv : Int) + 1))).cell? ⟨T, i, none⟩ = w3.cell? ⟨T, i, none⟩ := fun i hi => World.cell?_setCell_other _ _ _ _ (addr_ne (.inr (fun e => hi e.symm)))
  have hs : Fr (fun i => i = T) w3 (w3.setCell ⟨T, 6, none⟩ (.int .i64 ((u.mv : Int) + 1))) := Fr.setCell (S := fun i => i = T) w3 ⟨T, 6, none⟩ rfl _
  have a3 := (p1.below hb).ch k3 (.inl (Nat.le_refl _)) (fun _ => hg)
  have e : mv1 u = { now := u.now.set u.mv gravePl, e1 := u.e1 - 1, d1 := u.d1 + 1, nxt := u.nxt.set (addI u.nxt (hk (pAt u.now u.mv).k)) ⟨1, (pAt u.now u.mv).k, (pAt u.now u.mv).n⟩, e2 := u.e2 + 1, d2 := addD u.nxt (addI u.nxt (hk (pAt u.now u.mv).k)) u.d2, mv := u.mv + 1 } := by unfold mv1; rw [if_pos hf]
  rw [e]
  refine ⟨c6, p3.ft 6, ⟨a3.keep (fun i hi => ce0 _ (by omega)) fr0 (fun hl => hs.block G1 (a3.ltG hl) (a3.ne hl)), p3.keep (fun i hi => ce0 _ (by omega)) fr0 (fun hl => hs.block G2 (p3.ltG hl) (p3.ne hl)), World.cell?_setCell_same w3 _ _ c6, fun _ => hg⟩, ?_⟩
  refine (((k1.fr.mono ?_).trans (k2.fr.mono ?_)).trans (k3.fr.mono ?_)).trans (hs.mono ?_)
  · rintro i (e | e)
    · exact .inl e
    · exact .inr (.inl e)
  · rintro i (e | e)
    · exact .inl e
    · exact .inr (.inr ⟨hn, e⟩)
  · rintro i (e | e)
    · exact .inl e
    · exact .inr (.inr ⟨hn, e⟩)
  · intro i e; exact .inl e
/-- What moving one place leaves, where it is no entry. -/
theorem mv_none {w w3 : World} {T G1 G2 : Nat} {u : St} (h : TAt w T G1 G2 u) (hf : ((pAt u.now u.mv).i == 1) = false) (hb : Below w.heap.size w w3) :
    w3.cell? ⟨T, 6, none⟩ = some (.int .i64 u.mv) ∧ w3.frozen? ⟨T, 6, none⟩ = false ∧ TAt (w3.setCell ⟨T, 6, none⟩ (.int .i64 ((u.mv : Int) + 1))) T G1 G2 (mv1 u) ∧ Fr (own T G1 G2 u) w (w3.setCell ⟨T, 6, none⟩ (.int .i64 ((u.mv : Int) + 1))) := by
  have h3 := h.below hb
  have fr0 : ∀ i, (w3.setCell ⟨T, 6, none⟩ (.int .i64 ((u.mv : Int) + 1))).frozen? ⟨T, i, none⟩ = w3.frozen? ⟨T, i, none⟩ := fun i => World.frozen?_setCell ..
  have ce0 : ∀ i, i ≠ 6 → (w3.setCell ⟨T, 6, none⟩ (.int .i64 ((u.mv : Int) + 1))).cell? ⟨T, i, none⟩ = w3.cell? ⟨T, i, none⟩ := fun i hi => World.cell?_setCell_other _ _ _ _ (addr_ne (.inr (fun e => hi e.symm)))
  have hs : Fr (fun i => i = T) w3 (w3.setCell ⟨T, 6, none⟩ (.int .i64 ((u.mv : Int) + 1))) := Fr.setCell (S := fun i => i = T) w3 ⟨T, 6, none⟩ rfl _
  have e : mv1 u = { u with mv := u.mv + 1 } := by unfold mv1; rw [if_neg (by rw [hf]; decide)]
  rw [e]
  exact ⟨h3.m, h3.a.ft 6, ⟨h3.a.keep (fun i hi => ce0 _ (by omega)) fr0 (fun hl => hs.block G1 (h3.a.ltG hl) (h3.a.ne hl)), h3.b.keep (fun i hi => ce0 _ (by omega)) fr0 (fun hl => hs.block G2 (h3.b.ltG hl) (h3.b.ne hl)), World.cell?_setCell_same w3 _ _ h3.m, h3.g⟩, (Fr.of_below hb).trans (hs.mono fun i e => .inl e)⟩
theorem below_setCells (g : Nat) : ∀ (vs : List Value) (o : Nat) (w : World), Below g w (w.setCells g o vs)
  | [], _, w => Below.refl _ _
  | v :: r, o, w => by
    rw [World.setCells]
    exact (Below.setCell (p := ⟨g, o, none⟩) (Below.refl g w) (Nat.le_refl _) v).trans (below_setCells g r (o + 1) _)
theorem fr_setCells (w : World) (g o : Nat) (vs : List Value) : Fr (fun i => i = g) w (w.setCells g o vs) :=
  have h := below_setCells g vs o w
  ⟨h.os, h.tape, h.output, h.size, fun _ hi hne => World.heap_setCells_other w g o vs hi hne⟩
/-- A table in the place of another. -/
theorem setT_done {W : World} {T G1 G2 G : Nat} {u : St} (h : TAt W T G1 G2 u) {l : List Pl} {e d : Int} (pl : ∀ j (hj : j < l.length), W.cell? ⟨G, j * 3, none⟩ = some (.int .i64 l[j].i) ∧ W.cell? ⟨G, j * 3 + 1, none⟩ = some (.string l[j].k) ∧ W.cell? ⟨G, j * 3 + 2, none⟩ = some (.int .i64 l[j].n))
    (fg : ∀ i, W.frozen? ⟨G, i, none⟩ = false) (ne : G ≠ T) :
    TAt (W.setCells T 0 [.slice (some ⟨G, 0, none⟩) l.length l.length, .int .i64 e, .int .i64 d, .slice none 0 0, .int .i64 0, .int .i64 0, .int .i64 0]) T G G ⟨l, e, d, [], 0, 0, 0⟩ ∧
      Fr (fun i => i = T) W (W.setCells T 0 [.slice (some ⟨G, 0, none⟩) l.length l.length, .int .i64 e, .int .i64 d, .slice none 0 0, .int .i64 0, .int .i64 0, .int .i64 0]) := by
  obtain ⟨x0, c0, -⟩ := h.a.c0
  obtain ⟨x3, c3, -⟩ := h.b.c0
  have c1 := h.a.c1
  have c2 := h.a.c2
  have c4 := h.b.c1
  have c5 := h.b.c2
  have c6 := h.m
  have hs : ∀ i, i < 7 → (W.cell? ⟨T, 0 + i, none⟩).isSome = true := fun i hi => by
    rw [Nat.zero_add]
    have : i = 0 ∨ i = 1 ∨ i = 2 ∨ i = 3 ∨ i = 4 ∨ i = 5 ∨ i = 6 := by omega
    rcases this with rfl | rfl | rfl | rfl | rfl | rfl | rfl
    · rw [c0]; rfl
    · rw [c1]; rfl
    · rw [c2]; rfl
    · rw [c3]; rfl
    · rw [c4]; rfl
    · rw [c5]; rfl
    · rw [c6]; rfl
  generalize hvs : [Value.slice (some ⟨G, 0, none⟩) l.length l.length, .int .i64 e, .int .i64 d, .slice none 0 0, .int .i64 0, .int .i64 0, .int .i64 0] = vs
  have hlen : vs.length = 7 := by rw [← hvs]; rfl
  have hin := World.cell?_setCells_in T vs 0 W (fun j hj => hs j (by omega))
  have hout : ∀ b i, b ≠ T → (W.setCells T 0 vs).cell? ⟨b, i, none⟩ = W.cell? ⟨b, i, none⟩ := fun b i hb => by
    have := World.cell?_setCells_out T vs 0 W ⟨b, i, none⟩ (fun hb' _ => absurd hb' hb)
    exact this
  have hfz : ∀ a, (W.setCells T 0 vs).frozen? a = W.frozen? a := fun a => World.frozen?_setCells ..
  have hfr : Fr (fun i => i = T) W (W.setCells T 0 vs) := fr_setCells W T 0 vs
  subst hvs
  have k0 := hin 0 (by show (0 : Nat) < 7; decide)
  have k1 := hin 1 (by show (1 : Nat) < 7; decide)
  have k2 := hin 2 (by show (2 : Nat) < 7; decide)
  have k3 := hin 3 (by show (3 : Nat) < 7; decide)
  have k4 := hin 4 (by show (4 : Nat) < 7; decide)
  have k5 := hin 5 (by show (5 : Nat) < 7; decide)
  have k6 := hin 6 (by show (6 : Nat) < 7; decide)
  exact ⟨⟨⟨⟨_, k0, fun _ => rfl⟩, k1, k2, fun i => (hfz _).trans (h.a.ft i), fun j hj => by rw [hout _ _ ne, hout _ _ ne, hout _ _ ne]; exact pl j hj, fun _ i => (hfz _).trans (fg i), fun _ => ne⟩,
    ⟨⟨_, k3, fun hn => absurd hn (Nat.lt_irrefl _)⟩, k4, k5, fun i => (hfz _).trans (h.a.ft i), fun j hj => absurd hj (Nat.not_lt_zero _), fun hn => absurd hn (Nat.lt_irrefl _), fun hn => absurd hn (Nat.lt_irrefl _)⟩, k6, fun hn => absurd hn (Nat.lt_irrefl _)⟩, hfr⟩
/-- What bury leaves at W, which is W1 or has new blocks besides. -/
structure BurR (W1 W w' : World) (T G1 : Nat) (u : St) : Prop where
  p : PAt w' T 0 G1 (u.now.set u.mv gravePl) (u.e1 - 1) (u.d1 + 1)
  k : Ch T 0 G1 W1 w'
  n : ∀ b, W1.heap.size ≤ b → b < W.heap.size → w'.heap[b]? = W.heap[b]?
theorem buried {W1 : World} {T G1 G2 : Nat} {u : St} (h : TAt W1 T G1 G2 u) (hlt : u.mv < u.now.length) (hb1 : u.now.length ≤ 4096) (hr : 0 ≤ u.e1 ∧ 0 ≤ u.d1 ∧ u.e1 + u.d1 ≤ u.now.length) (W : World) (hb : Below W1.heap.size W1 W) :
    Calls Tryz.prog 100 #[.pointer (some ⟨T, 0, none⟩), .int .i64 (u.mv : Nat)] W fun en w' => ∃ v, en = .returned v ∧ v = .agg #[.int .i64 (pAt u.now u.mv).i, .string (pAt u.now u.mv).k, .int .i64 (pAt u.now u.mv).n] ∧ BurR W1 W w' T G1 u := by
  refine (bury_calls W T 0 G1 u.now u.e1 u.d1 (h.a.below hb) u.mv hlt (by omega) (by omega) (by omega)).mono ?_
  rintro en w' ⟨rfl, hp, hk⟩
  refine ⟨_, rfl, rfl, hp, (Ch.of_below h.a.lt hb).trans hk, fun b h1 h2 => hk.fr.block b h2 ?_⟩
  have := h.a.lt
  have := h.a.ltG (by omega)
  rintro (e | e) <;> omega
theorem BurR.keeps {W1 W w' : World} {T G1 : Nat} {u : St} (h : BurR W1 W w' T G1 u) (hl : 0 < u.now.length) (c6 : W1.cell? ⟨T, 6, none⟩ = some (.int .i64 u.mv)) :
    (fun w' : World => w'.cell? ⟨T, 0, none⟩ = some (.slice (some ⟨G1, 0, none⟩) u.now.length u.now.length) ∧ w'.cell? ⟨T, 6, none⟩ = some (.int .i64 u.mv)) w' := by
  refine ⟨?_, (h.k.ot 6 (by omega)).trans c6⟩
  obtain ⟨a, h0, ha⟩ := h.p.c0
  rw [List.length_set] at h0 ha
  rw [ha hl] at h0
  exact h0
theorem BurR.keeps2 {W1 W w' : World} {T G1 : Nat} {u : St} (h : BurR W1 W w' T G1 u) (hl : 0 < u.now.length) (c6 : W1.cell? ⟨T, 6, none⟩ = some (.int .i64 u.mv)) (o : Obj) :
    (fun w' : World => w'.cell? ⟨T, 0, none⟩ = some (.slice (some ⟨G1, 0, none⟩) u.now.length u.now.length) ∧ w'.cell? ⟨T, 6, none⟩ = some (.int .i64 u.mv)) (w'.alloc o) := by
  have hb := bbox (w := w') o
  obtain ⟨k0, k6⟩ := h.keeps hl c6
  exact ⟨(hb.cell (p := ⟨T, 0, none⟩) h.p.lt).trans k0, (hb.cell (p := ⟨T, 6, none⟩) h.p.lt).trans k6⟩
theorem BurR.keeps4 {W1 W w' : World} {T G1 : Nat} {u : St} (h : BurR W1 W w' T G1 u) (hT : T < W1.heap.size) (hl : 0 < u.now.length) (c6 : W1.cell? ⟨T, 6, none⟩ = some (.int .i64 u.mv)) (x y z : Value) :
    (fun w' : World => w'.cell? ⟨T, 0, none⟩ = some (.slice (some ⟨G1, 0, none⟩) u.now.length u.now.length) ∧ w'.cell? ⟨T, 6, none⟩ = some (.int .i64 u.mv)) (((w'.setCell ⟨W1.heap.size, 0, none⟩ x).setCell ⟨W1.heap.size, 1, none⟩ y).setCell ⟨W1.heap.size, 2, none⟩ z) := by
  obtain ⟨k0, k6⟩ := h.keeps hl c6
  have e : ∀ i (W : World) v j, (W.setCell ⟨W1.heap.size, j, none⟩ v).cell? ⟨T, i, none⟩ = W.cell? ⟨T, i, none⟩ := fun i W v j => World.cell?_setCell_other _ _ _ _ (addr_ne (.inl (by omega)))
  exact ⟨by rw [e, e, e]; exact k0, by rw [e, e, e]; exact k6⟩
theorem BurR.cells {W1 w' : World} {T G1 : Nat} {u : St} (h : BurR W1 (W1.alloc (.cells #[.int .i64 0, .string ⟨#[]⟩, .int .i64 0] 93)).drew w' T G1 u) :
    w'.cell? ⟨W1.heap.size, 0, none⟩ = some (.int .i64 0) ∧ w'.cell? ⟨W1.heap.size, 1, none⟩ = some (.string ⟨#[]⟩) ∧ w'.cell? ⟨W1.heap.size, 2, none⟩ = some (.int .i64 0) ∧ w'.frozen? ⟨W1.heap.size, 0, none⟩ = false ∧ w'.frozen? ⟨W1.heap.size, 1, none⟩ = false ∧ w'.frozen? ⟨W1.heap.size, 2, none⟩ = false := by
  have e := h.n W1.heap.size (Nat.le_refl _) (by simp)
  have e2 : (W1.alloc (.cells #[.int .i64 0, .string ⟨#[]⟩, .int .i64 0] 93)).drew.heap[W1.heap.size]? = some (.cells #[.int .i64 0, .string ⟨#[]⟩, .int .i64 0] 93) := heap_alloc_new W1 _
  rw [e2] at e
  simp only [World.cell?, World.frozen?, e]
  simp
/-- .. and the entry in a block of its own. -/
structure Buried (W1 wc : World) (T G1 : Nat) (u : St) (b : Nat) : Prop where
  p : PAt wc T 0 G1 (u.now.set u.mv gravePl) (u.e1 - 1) (u.d1 + 1)
  k : Ch T 0 G1 W1 wc
  lo : W1.heap.size ≤ b
  b1 : wc.cell? ⟨b, 1, none⟩ = some (.string (pAt u.now u.mv).k)
  b2 : wc.cell? ⟨b, 2, none⟩ = some (.int .i64 (pAt u.now u.mv).n)
theorem BurR.done1 {W1 W w' : World} {T G1 : Nat} {u : St} (h : BurR W1 W w' T G1 u) (t : TypeId) : Buried W1 (w'.alloc (.cells #[.int .i64 (pAt u.now u.mv).i, .string (pAt u.now u.mv).k, .int .i64 (pAt u.now u.mv).n] t)) T G1 u w'.heap.size := by
  have hb := bbox (w := w') (.cells #[.int .i64 (pAt u.now u.mv).i, .string (pAt u.now u.mv).k, .int .i64 (pAt u.now u.mv).n] t)
  exact ⟨h.p.below hb, h.k.trans (Ch.of_below h.p.lt hb), h.k.fr.size, by rw [World.cell?_alloc_new]; rfl, by rw [World.cell?_alloc_new]; rfl⟩
theorem BurR.done2 {W1 W w' : World} {T G1 : Nat} {u : St} (h : BurR W1 W w' T G1 u) (hT : T < W1.heap.size) (hG : G1 < W1.heap.size) (c0 : ∃ x, w'.cell? ⟨W1.heap.size, 0, none⟩ = some x) (c1 : ∃ x, w'.cell? ⟨W1.heap.size, 1, none⟩ = some x) (c2 : ∃ x, w'.cell? ⟨W1.heap.size, 2, none⟩ = some x) :
    Buried W1 (((w'.setCell ⟨W1.heap.size, 0, none⟩ (.int .i64 (pAt u.now u.mv).i)).setCell ⟨W1.heap.size, 1, none⟩ (.string (pAt u.now u.mv).k)).setCell ⟨W1.heap.size, 2, none⟩ (.int .i64 (pAt u.now u.mv).n)) T G1 u W1.heap.size := by
  obtain ⟨x0, c0⟩ := c0
  obtain ⟨x1, c1⟩ := c1
  obtain ⟨x2, c2⟩ := c2
  have hs := ((Fr.setCell (S := fun i => i = W1.heap.size) w' ⟨W1.heap.size, 0, none⟩ rfl (.int .i64 (pAt u.now u.mv).i)).trans (Fr.setCell (S := fun i => i = W1.heap.size) _ ⟨W1.heap.size, 1, none⟩ rfl (.string (pAt u.now u.mv).k))).trans (Fr.setCell (S := fun i => i = W1.heap.size) _ ⟨W1.heap.size, 2, none⟩ rfl (.int .i64 (pAt u.now u.mv).n))
  have d1 := World.cell?_setCell_same (w'.setCell ⟨W1.heap.size, 0, none⟩ (.int .i64 (pAt u.now u.mv).i)) ⟨W1.heap.size, 1, none⟩ (.string (pAt u.now u.mv).k) ((World.cell?_setCell_other _ _ _ _ (addr_ne (.inr (by decide)))).trans c1)
  have d2 := World.cell?_setCell_same ((w'.setCell ⟨W1.heap.size, 0, none⟩ (.int .i64 (pAt u.now u.mv).i)).setCell ⟨W1.heap.size, 1, none⟩ (.string (pAt u.now u.mv).k)) ⟨W1.heap.size, 2, none⟩ (.int .i64 (pAt u.now u.mv).n) ((World.cell?_setCell_other _ _ _ _ (addr_ne (.inr (by decide)))).trans ((World.cell?_setCell_other _ _ _ _ (addr_ne (.inr (by decide)))).trans c2))
  have d1' := (World.cell?_setCell_other ((w'.setCell ⟨W1.heap.size, 0, none⟩ (.int .i64 (pAt u.now u.mv).i)).setCell ⟨W1.heap.size, 1, none⟩ (.string (pAt u.now u.mv).k)) ⟨W1.heap.size, 2, none⟩ ⟨W1.heap.size, 1, none⟩ (.int .i64 (pAt u.now u.mv).n) (addr_ne (.inr (by decide)))).trans d1
  have fz : ∀ a, (((w'.setCell ⟨W1.heap.size, 0, none⟩ (.int .i64 (pAt u.now u.mv).i)).setCell ⟨W1.heap.size, 1, none⟩ (.string (pAt u.now u.mv).k)).setCell ⟨W1.heap.size, 2, none⟩ (.int .i64 (pAt u.now u.mv).n)).frozen? a = w'.frozen? a := fun a => by rw [World.frozen?_setCell, World.frozen?_setCell, World.frozen?_setCell]
  generalize (((w'.setCell ⟨W1.heap.size, 0, none⟩ (.int .i64 (pAt u.now u.mv).i)).setCell ⟨W1.heap.size, 1, none⟩ (.string (pAt u.now u.mv).k)).setCell ⟨W1.heap.size, 2, none⟩ (.int .i64 (pAt u.now u.mv).n)) = W3 at *
  have hTb := hs.block T h.p.lt (by omega)
  have ct : ∀ i, W3.cell? ⟨T, i, none⟩ = w'.cell? ⟨T, i, none⟩ := fun i => by simp only [World.cell?, hTb]
  exact ⟨h.p.keep (fun i _ => ct _) (fun i => fz _) (fun hl => hs.block G1 (h.p.ltG hl) (by omega)), ⟨⟨hs.os.trans h.k.fr.os, hs.tape.trans h.k.fr.tape, hs.output.trans h.k.fr.output, Nat.le_trans h.k.fr.size hs.size, fun i hi hn => (hs.block i (Nat.lt_of_lt_of_le hi h.k.fr.size) (by omega)).trans (h.k.fr.block i hi hn)⟩, fun i hi => (ct i).trans (h.k.ot i hi), fun a ha => (fz a).trans (h.k.fz a ha)⟩, Nat.le_refl _, d1', d2⟩
end Go.Proofs.YtmjlhmohglbecaaGreatDoor.Ta
/- Package table: Len, Room, nextRoom, Clear, New. Conditions: what is always so of a table. -/
namespace Go.Proofs.YtmjlhmohglbecaaGreatDoor.Ta
open Go.ChangeShapes Go.WideShapes Go.ChangeAt Go.RowKit
/-- A call that goes from the table s to s': its blocks alone are other ones, or new. -/
def Moved (T G1 G2 : Nat) (s : St) (w : World) (s' : St) (w' : World) : Prop := ∃ G1' G2', TAt w' T G1' G2' s' ∧ Fr (own T G1 G2 s) w w' ∧ ∀ i, own T G1' G2' s' i → own T G1 G2 s i ∨ w.heap.size ≤ i
set_option maxHeartbeats 1000000 in
theorem len_calls (w : World) (T G1 G2 : Nat) (s : St) (hT : TAt w T G1 G2 s) {c : Int} (hO : Ok c s) :
    Calls Tryz.prog 11 #[.pointer (some ⟨T, 0, none⟩)] w fun e w' => e = .returned (.int .i64 (lenS s)) ∧ ∃ n, w' = w.drewN n := by
  have c1 := hT.a.c1
  have c4 := hT.b.c1
  have e1 : Go.RowKit.wrap64 (s.e1 + s.e2) = s.e1 + s.e2 := IntWalk.wrap64_in _ (by have := hO.a.rng; have := hO.b.rng; have := hO.b1; have := hO.b2; omega)
  have E1 := Lib.hid e1
  clear hT hO e1
  go_enter Tryz.func11, Tryz.ntmps11
  go_wp2_with fail
  go_quiet (fail)
  go_wp2_with fail
  go_ret
  refine ⟨?_, _, rfl⟩
  rw [E1.out]
  rfl
set_option maxHeartbeats 4000000 in
theorem nextRoom_calls (w : World) (T G1 G2 : Nat) (s : St) (hT : TAt w T G1 G2 s) {c : Int} (hO : Ok c s) (hl : lenS s ≤ 511) :
    Calls Tryz.prog 108 #[.pointer (some ⟨T, 0, none⟩)] w fun e w' => e = .returned (.int .i64 (nextR s : Nat)) ∧ ∃ n, w' = w.drewN n := by
  obtain ⟨a0, c0, -⟩ := hT.a.c0
  have H0 := Lib.hid (room_calls w T 0 a0 s.now.length c0)
  have HL := Lib.hid (fun k => len_calls (w.drewN k) T G1 G2 s (hT.below (drewN_below w k)) hO)
  obtain ⟨L, hL⟩ : ∃ L : Nat, lenS s = (L : Int) := ⟨(lenS s).toNat, by have := hO.a.rng; have := hO.b.rng; unfold lenS; omega⟩
  have hnr : nextR s = nr 60 (max 8 (s.now.length / 2)) L := by unfold nextR; rw [hL]; rfl
  rw [hL] at HL hl
  have HN := Lib.hid hnr
  have hr0 : max 8 (s.now.length / 2) ≤ 2048 := by have := hO.b1; omega
  have hb1 := hO.b1
  have hmx : max (8 : Int) ((s.now.length : Int) / 2) = ((max 8 (s.now.length / 2) : Nat) : Int) := by omega
  clear hT hO hnr
  by_cases hm : 8 < s.now.length / 2
  · have hmi : (8 : Int) < (s.now.length : Int) / 2 := by omega
    clear hmx
    go_enter Tryz.func108, Tryz.ntmps108
    go_wp2_with fail
    refine H0.out.mono ?_; rintro en w2 ⟨rfl, rfl⟩
    go_wp2_with fail
    go_loopg [3] 61 (fun g v3 wr => ∃ (r f : Nat), v3 = .int .i64 (r : Nat) ∧ f < g ∧ f ≤ 60 ∧ Hid (nr f r L = nextR s) ∧ 8 ≤ r ∧ r ≤ 4096 ∧ Hid (4 * L + 3 < r * 2 ^ f) ∧ ∃ n, wr = w.drewN n)
    case atStart => exact ⟨s.now.length / 2, 60, by first | rfl | (congr 1; omega), by omega, by omega, Lib.hid (by rw [HN.out]; congr 1; omega), by omega, by omega, Lib.hid (by have : (2 : Nat) ^ 60 = 1152921504606846976 := rfl; rw [this]; omega), 0, rfl⟩
    case round =>
      obtain ⟨r, f, rfl, hfg, hf60, HR, hr8, hr4, HP, n, rfl⟩ := hrel
      by_cases hrl : r / 4 ≤ L
      · have hrc : (r : Int) / 4 ≤ (L : Int) := by omega
        obtain ⟨f', hf'⟩ : ∃ f', f = f' + 1 := by
          cases f with
          | zero => have := HP.out; rw [Nat.pow_zero, Nat.mul_one] at this; omega
          | succ f => exact ⟨f, rfl⟩
        have HR2 : Hid (nr f' (r * 2) L = nextR s) := Lib.hid (by have h := HR.out; rw [hf'] at h; unfold nr at h; rw [if_pos hrl] at h; exact h)
        have HP2 : Hid (4 * L + 3 < r * 2 * 2 ^ f') := Lib.hid (by have h := HP.out; rw [hf', Nat.pow_succ] at h; rw [Nat.mul_assoc, Nat.mul_comm 2]; exact h)
        have hfs : f' + 1 ≤ 60 ∧ f' + 1 < gk := by omega
        clear hf'
        go_wp2_with fail
        refine (HL.out _).mono ?_; rintro en w3 ⟨rfl, m, rfl⟩
        go_wp2_with fail
        go_roundg (gk - 1)
        case measure => omega
        case rel => exact ⟨r * 2, f', by go_num, by omega, by omega, HR2, by omega, by omega, HP2, _, rfl⟩
      · have hrc : ¬ ((r : Int) / 4 ≤ (L : Int)) := by omega
        have HZ : Hid (nextR s = r) := Lib.hid (by have h := HR.out; rw [← h]; cases f with | zero => rfl | succ f => unfold nr; rw [if_neg hrl])
        go_wp2_with fail
        refine (HL.out _).mono ?_; rintro en w3 ⟨rfl, m, rfl⟩
        go_wp2_with fail
        go_ret
        exact ⟨by rw [HZ.out]; rfl, _, rfl⟩
  · have hmi : (s.now.length : Int) / 2 ≤ 8 := by omega
    clear hmx
    go_enter Tryz.func108, Tryz.ntmps108
    go_wp2_with fail
    refine H0.out.mono ?_; rintro en w2 ⟨rfl, rfl⟩
    go_wp2_with fail
    go_loopg [3] 61 (fun g v3 wr => ∃ (r f : Nat), v3 = .int .i64 (r : Nat) ∧ f < g ∧ f ≤ 60 ∧ Hid (nr f r L = nextR s) ∧ 8 ≤ r ∧ r ≤ 4096 ∧ Hid (4 * L + 3 < r * 2 ^ f) ∧ ∃ n, wr = w.drewN n)
    case atStart => exact ⟨8, 60, by first | rfl | (congr 1; omega), by omega, by omega, Lib.hid (by rw [HN.out]; congr 1; omega), by omega, by omega, Lib.hid (by have : (2 : Nat) ^ 60 = 1152921504606846976 := rfl; rw [this]; omega), 0, rfl⟩
    case round =>
      obtain ⟨r, f, rfl, hfg, hf60, HR, hr8, hr4, HP, n, rfl⟩ := hrel
      by_cases hrl : r / 4 ≤ L
      · have hrc : (r : Int) / 4 ≤ (L : Int) := by omega
        obtain ⟨f', hf'⟩ : ∃ f', f = f' + 1 := by
          cases f with
          | zero => have := HP.out; rw [Nat.pow_zero, Nat.mul_one] at this; omega
          | succ f => exact ⟨f, rfl⟩
        have HR2 : Hid (nr f' (r * 2) L = nextR s) := Lib.hid (by have h := HR.out; rw [hf'] at h; unfold nr at h; rw [if_pos hrl] at h; exact h)
        have HP2 : Hid (4 * L + 3 < r * 2 * 2 ^ f') := Lib.hid (by have h := HP.out; rw [hf', Nat.pow_succ] at h; rw [Nat.mul_assoc, Nat.mul_comm 2]; exact h)
        have hfs : f' + 1 ≤ 60 ∧ f' + 1 < gk := by omega
        clear hf'
        go_wp2_with fail
        refine (HL.out _).mono ?_; rintro en w3 ⟨rfl, m, rfl⟩
        go_wp2_with fail
        go_roundg (gk - 1)
        case measure => omega
        case rel => exact ⟨r * 2, f', by go_num, by omega, by omega, HR2, by omega, by omega, HP2, _, rfl⟩
      · have hrc : ¬ ((r : Int) / 4 ≤ (L : Int)) := by omega
        have HZ : Hid (nextR s = r) := Lib.hid (by have h := HR.out; rw [← h]; cases f with | zero => rfl | succ f => unfold nr; rw [if_neg hrl])
        go_wp2_with fail
        refine (HL.out _).mono ?_; rintro en w3 ⟨rfl, m, rfl⟩
        go_wp2_with fail
        go_ret
        exact ⟨by rw [HZ.out]; rfl, _, rfl⟩
end Go.Proofs.YtmjlhmohglbecaaGreatDoor.Ta
/- Package table: Clear, New; what Put writes. Conditions: what is always so of a table. -/
namespace Go.Proofs.YtmjlhmohglbecaaGreatDoor.Ta
open Go.ChangeShapes Go.WideShapes Go.ChangeAt Go.RowKit
theorem fresh_cells {w : World} {G n : Nat} {t : TypeId} (h : w.heap[G]? = some (.cells (zerosP n) t)) :
    (∀ j (hj : j < (List.replicate n zeroPl).length), w.cell? ⟨G, j * 3, none⟩ = some (.int .i64 (List.replicate n zeroPl)[j].i) ∧ w.cell? ⟨G, j * 3 + 1, none⟩ = some (.string (List.replicate n zeroPl)[j].k) ∧ w.cell? ⟨G, j * 3 + 2, none⟩ = some (.int .i64 (List.replicate n zeroPl)[j].n)) ∧ ∀ i, w.frozen? ⟨G, i, none⟩ = false := by
  refine ⟨fun j hj => ?_, fun i => by simp [World.frozen?, h]⟩
  have hj : j < n := by rwa [List.length_replicate] at hj
  rw [List.getElem_replicate]
  have hs := zerosP_size n
  have hat : ∀ i (hi : i < n * 3), (zerosP n)[i]? = some ((Value.agg #[.int .i64 0, .string ⟨#[]⟩, .int .i64 0]).cells[i % (Value.agg #[.int .i64 0, .string ⟨#[]⟩, .int .i64 0]).cells.size]!) := fun i hi => by
    unfold zerosP madeCells
    rw [Array.getElem?_map, Array.getElem?_range]
    simp [hi]
  have m0 : j * 3 % 3 = 0 := by omega
  have m1 : (j * 3 + 1) % 3 = 1 := by omega
  have m2 : (j * 3 + 2) % 3 = 2 := by omega
  have hz : (Value.agg #[.int .i64 0, .string ⟨#[]⟩, .int .i64 0]).cells.size = 3 := rfl
  have a0 := hat (j * 3) (by omega)
  have a1 := hat (j * 3 + 1) (by omega)
  have a2 := hat (j * 3 + 2) (by omega)
  rw [hz, m0] at a0
  rw [hz, m1] at a1
  rw [hz, m2] at a2
  simp only [World.cell?, h]
  exact ⟨a0, a1, a2⟩
theorem TAt.lts {w : World} {T G1 G2 : Nat} {s : St} (h : TAt w T G1 G2 s) (hl : 0 < s.now.length) {i : Nat} (hi : own T G1 G2 s i) : i < w.heap.size := by
  rcases hi with rfl | rfl | ⟨hn, rfl⟩
  · exact h.a.lt
  · exact h.a.ltG hl
  · exact h.b.ltG hn
theorem Moved.trans {T G1 G2 H1 H2 : Nat} {s s1 s2 : St} {w w1 w2 : World} (hf : Fr (own T G1 G2 s) w w1) (hs : ∀ i, own T H1 H2 s1 i → own T G1 G2 s i ∨ w.heap.size ≤ i) (k : Moved T H1 H2 s1 w1 s2 w2) : Moved T G1 G2 s w s2 w2 := by
  obtain ⟨K1, K2, a, b, c⟩ := k
  refine ⟨K1, K2, a, ⟨b.os.trans hf.os, b.tape.trans hf.tape, b.output.trans hf.output, Nat.le_trans hf.size b.size, fun i hi hn => ?_⟩, fun i hi => ?_⟩
  · rw [b.block i (Nat.lt_of_lt_of_le hi hf.size) (fun ho => by rcases hs i ho with h | h; exact hn h; omega), hf.block i hi hn]
  · rcases c i hi with h | h
    · exact hs i h
    · exact .inr (Nat.le_trans hf.size h)
set_option maxHeartbeats 2000000 in
theorem newT_calls (w : World) :
    Calls Tryz.prog 54 #[] w fun e w' => e = .returned (.pointer (some ⟨w.heap.size + 2, 0, none⟩)) ∧ TAt w' (w.heap.size + 2) (w.heap.size + 1) (w.heap.size + 1) newS ∧ Below w.heap.size w w' := by
  refine (new_calls w).mono ?_
  rintro en w' ⟨W2, h1, h2, h3, rfl, rfl⟩
  have hb := h1.trans ((bbox (w := W2) (.cells #[.slice (some ⟨w.heap.size + 1, 0, none⟩) 8 8, .int .i64 0, .int .i64 0, .slice none 0 0, .int .i64 0, .int .i64 0, .int .i64 0] 85)).mono (by omega))
  refine ⟨rfl, ?_, hb⟩
  obtain ⟨f1, f2⟩ := fresh_cells h3
  have hT : (W2.alloc (.cells #[.slice (some ⟨w.heap.size + 1, 0, none⟩) 8 8, .int .i64 0, .int .i64 0, .slice none 0 0, .int .i64 0, .int .i64 0, .int .i64 0] 85)).heap[w.heap.size + 2]? = some (.cells #[.slice (some ⟨w.heap.size + 1, 0, none⟩) 8 8, .int .i64 0, .int .i64 0, .slice none 0 0, .int .i64 0, .int .i64 0, .int .i64 0] 85) := by rw [← h2]; exact heap_alloc_new W2 _
  have hb2 := bbox (w := W2) (.cells #[.slice (some ⟨w.heap.size + 1, 0, none⟩) 8 8, .int .i64 0, .int .i64 0, .slice none 0 0, .int .i64 0, .int .i64 0, .int .i64 0] 85)
  generalize W2.alloc (.cells #[.slice (some ⟨w.heap.size + 1, 0, none⟩) 8 8, .int .i64 0, .int .i64 0, .slice none 0 0, .int .i64 0, .int .i64 0, .int .i64 0] 85) = W3 at *
  have hfz : ∀ i, W3.frozen? ⟨w.heap.size + 2, i, none⟩ = false := fun i => by simp [World.frozen?, hT]
  refine ⟨⟨⟨some ⟨w.heap.size + 1, 0, none⟩, by simp [World.cell?, hT, newS], fun _ => rfl⟩, by simp [World.cell?, hT, newS], by simp [World.cell?, hT, newS], hfz, fun j hj => ?_, fun _ i => ?_, fun _ => by omega⟩, ⟨⟨none, by simp [World.cell?, hT, newS], fun hn => absurd hn (Nat.lt_irrefl _)⟩, by simp [World.cell?, hT, newS], by simp [World.cell?, hT, newS], hfz, fun j hj => absurd hj (Nat.not_lt_zero _), fun hn => absurd hn (Nat.lt_irrefl _), fun hn => absurd hn (Nat.lt_irrefl _)⟩, by simp [World.cell?, hT, newS], fun hn => absurd hn (Nat.lt_irrefl _)⟩
  · have := f1 j hj
    rw [← hb2.cell (p := ⟨w.heap.size + 1, j * 3, none⟩) (by show w.heap.size + 1 < W2.heap.size; omega), ← hb2.cell (p := ⟨w.heap.size + 1, j * 3 + 1, none⟩) (by show w.heap.size + 1 < W2.heap.size; omega), ← hb2.cell (p := ⟨w.heap.size + 1, j * 3 + 2, none⟩) (by show w.heap.size + 1 < W2.heap.size; omega)] at this
    exact this
  · exact (hb2.frozen (p := ⟨w.heap.size + 1, i, none⟩) (by show w.heap.size + 1 < W2.heap.size; omega)).trans (f2 i)
theorem PAt.set_n {w : World} {T o G : Nat} {l : List Pl} {e d : Int} (h : PAt w T o G l e d) (p : Nat) (hp : p < l.length) (n : Int) : PAt (w.setCell ⟨G, p * 3 + 2, none⟩ (.int .i64 n)) T o G (setN l p n) e d ∧ Ch T o G w (w.setCell ⟨G, p * 3 + 2, none⟩ (.int .i64 n)) := by
  obtain ⟨a, h0, ha⟩ := h.c0
  have hn := h.ne (by omega)
  have ot : ∀ i, (w.setCell ⟨G, p * 3 + 2, none⟩ (.int .i64 n)).cell? ⟨T, i, none⟩ = w.cell? ⟨T, i, none⟩ := fun i => World.cell?_setCell_other _ _ _ _ (addr_ne (.inl hn))
  have fz : ∀ a, (w.setCell ⟨G, p * 3 + 2, none⟩ (.int .i64 n)).frozen? a = w.frozen? a := fun a => World.frozen?_setCell ..
  have og : ∀ i, i ≠ p * 3 + 2 → (w.setCell ⟨G, p * 3 + 2, none⟩ (.int .i64 n)).cell? ⟨G, i, none⟩ = w.cell? ⟨G, i, none⟩ := fun i hi => World.cell?_setCell_other _ _ _ _ (addr_ne (.inr (fun e => hi e.symm)))
  refine ⟨⟨⟨a, by rw [ot, setN_len]; exact h0, by rw [setN_len]; exact ha⟩, (ot _).trans h.c1, (ot _).trans h.c2, fun i => (fz _).trans (h.ft i), fun j hj => ?_, fun hl i => (fz _).trans (h.fg (by omega) i), fun _ => hn⟩, Fr.setCell _ _ (.inr rfl) _, fun i _ => ot i, fun a _ => fz a⟩
  have hj : j < l.length := by rwa [setN_len] at hj
  have hx := h.pl j hj
  by_cases hjp : j = p
  · subst hjp
    have e : (setN l j n)[j]'(by rw [setN_len]; exact hp) = ⟨(pAt l j).i, (pAt l j).k, n⟩ := by unfold setN; rw [List.getElem_set_self]
    rw [e, og _ (by omega), og _ (by omega)]
    have e2 := pAt_lt hp
    rw [e2]
    exact ⟨hx.1, hx.2.1, World.cell?_setCell_same w _ _ hx.2.2⟩
  · have e : (setN l p n)[j]'(by rw [setN_len]; exact hj) = l[j] := by unfold setN; rw [List.getElem_set_ne (fun e => hjp e.symm)]
    rw [e, og _ (by omega), og _ (by omega), og _ (by omega)]
    exact hx
/-- The place's number is another one. -/
theorem put_found0 {w : World} {T G1 G2 : Nat} {u : St} (h : TAt w T G1 G2 u) (p : Nat) (hp : p < u.now.length) (n : Int) : Moved T G1 G2 u w { u with now := setN u.now p n } (w.setCell ⟨G1, p * 3 + 2, none⟩ (.int .i64 n)) := by
  obtain ⟨a, b⟩ := h.a.set_n p hp n
  exact ⟨G1, G2, ⟨a, h.b.ch b (.inr (Nat.le_refl _)) (fun hn e => h.g hn e.symm), (b.ot 6 (by omega)).trans h.m, h.g⟩, b.fr.mono fun i e => by rcases e with e | e; exact .inl e; exact .inr (.inl e), fun i hi => .inl hi⟩
theorem put_found3 {w : World} {T G1 G2 : Nat} {u : St} (h : TAt w T G1 G2 u) (p : Nat) (hp : p < u.nxt.length) (n : Int) : Moved T G1 G2 u w { u with nxt := setN u.nxt p n } (w.setCell ⟨G2, p * 3 + 2, none⟩ (.int .i64 n)) := by
  obtain ⟨a, b⟩ := h.b.set_n p hp n
  have hn : 0 < u.nxt.length := by omega
  exact ⟨G1, G2, ⟨h.a.ch b (.inl (Nat.le_refl _)) (fun _ => h.g hn), a, (b.ot 6 (by omega)).trans h.m, fun _ => h.g hn⟩, b.fr.mono fun i e => by rcases e with e | e; exact .inl e; exact .inr (.inr ⟨hn, e⟩), fun i hi => .inl (by
    rcases hi with e | e | ⟨_, e⟩
    · exact .inl e
    · exact .inr (.inl e)
    · exact .inr (.inr ⟨hn, e⟩))⟩
/-- New places to be moved into. -/
theorem beg_done {w : World} {T G1 G2 G N : Nat} {u : St} (h : TAt w T G1 G2 u) (hl : 0 < u.now.length) (pl : ∀ j (hj : j < (List.replicate N zeroPl).length), w.cell? ⟨G, j * 3, none⟩ = some (.int .i64 (List.replicate N zeroPl)[j].i) ∧ w.cell? ⟨G, j * 3 + 1, none⟩ = some (.string (List.replicate N zeroPl)[j].k) ∧ w.cell? ⟨G, j * 3 + 2, none⟩ = some (.int .i64 (List.replicate N zeroPl)[j].n))
    (fg : ∀ i, w.frozen? ⟨G, i, none⟩ = false) (ne : G ≠ T) (ne1 : G1 ≠ G) :
    TAt (((w.setCell ⟨T, 3, none⟩ (.slice (some ⟨G, 0, none⟩) N N)).setCell ⟨T, 4, none⟩ (.int .i64 0)).setCell ⟨T, 5, none⟩ (.int .i64 0)) T G1 G { u with nxt := List.replicate N zeroPl, e2 := 0, d2 := 0 } ∧
      Fr (fun i => i = T) w (((w.setCell ⟨T, 3, none⟩ (.slice (some ⟨G, 0, none⟩) N N)).setCell ⟨T, 4, none⟩ (.int .i64 0)).setCell ⟨T, 5, none⟩ (.int .i64 0)) := by
  obtain ⟨x3, c3, -⟩ := h.b.c0
  have c4 := h.b.c1
  have c5 := h.b.c2
  have a0 : (⟨T, 3, none⟩ : Addr) ≠ ⟨T, 4, none⟩ := addr_ne (.inr (by decide))
  have a1 : (⟨T, 3, none⟩ : Addr) ≠ ⟨T, 5, none⟩ := addr_ne (.inr (by decide))
  have a2 : (⟨T, 4, none⟩ : Addr) ≠ ⟨T, 5, none⟩ := addr_ne (.inr (by decide))
  have d3 := (World.cell?_setCell_other ((w.setCell ⟨T, 3, none⟩ (.slice (some ⟨G, 0, none⟩) N N)).setCell ⟨T, 4, none⟩ (.int .i64 0)) ⟨T, 5, none⟩ ⟨T, 3, none⟩ (.int .i64 0) a1.symm).trans ((World.cell?_setCell_other (w.setCell ⟨T, 3, none⟩ (.slice (some ⟨G, 0, none⟩) N N)) ⟨T, 4, none⟩ ⟨T, 3, none⟩ (.int .i64 0) a0.symm).trans (World.cell?_setCell_same w ⟨T, 3, none⟩ (.slice (some ⟨G, 0, none⟩) N N) c3))
  have d4 := (World.cell?_setCell_other ((w.setCell ⟨T, 3, none⟩ (.slice (some ⟨G, 0, none⟩) N N)).setCell ⟨T, 4, none⟩ (.int .i64 0)) ⟨T, 5, none⟩ ⟨T, 4, none⟩ (.int .i64 0) a2.symm).trans (World.cell?_setCell_same (w.setCell ⟨T, 3, none⟩ (.slice (some ⟨G, 0, none⟩) N N)) ⟨T, 4, none⟩ (.int .i64 0) ((World.cell?_setCell_other _ _ _ _ a0).trans c4))
  have d5 := World.cell?_setCell_same ((w.setCell ⟨T, 3, none⟩ (.slice (some ⟨G, 0, none⟩) N N)).setCell ⟨T, 4, none⟩ (.int .i64 0)) ⟨T, 5, none⟩ (.int .i64 0) ((World.cell?_setCell_other _ _ _ _ a2).trans ((World.cell?_setCell_other _ _ _ _ a1).trans c5))
  have hot : ∀ i, i ≠ 3 → i ≠ 4 → i ≠ 5 → (((w.setCell ⟨T, 3, none⟩ (.slice (some ⟨G, 0, none⟩) N N)).setCell ⟨T, 4, none⟩ (.int .i64 0)).setCell ⟨T, 5, none⟩ (.int .i64 0)).cell? ⟨T, i, none⟩ = w.cell? ⟨T, i, none⟩ := fun i h3 h4 h5 => by
    rw [World.cell?_setCell_other _ _ _ _ (addr_ne (.inr (fun e => h5 e.symm))), World.cell?_setCell_other _ _ _ _ (addr_ne (.inr (fun e => h4 e.symm))), World.cell?_setCell_other _ _ _ _ (addr_ne (.inr (fun e => h3 e.symm)))]
  have hfz : ∀ a, (((w.setCell ⟨T, 3, none⟩ (.slice (some ⟨G, 0, none⟩) N N)).setCell ⟨T, 4, none⟩ (.int .i64 0)).setCell ⟨T, 5, none⟩ (.int .i64 0)).frozen? a = w.frozen? a := fun a => by rw [World.frozen?_setCell, World.frozen?_setCell, World.frozen?_setCell]
  have hg : ∀ i, (((w.setCell ⟨T, 3, none⟩ (.slice (some ⟨G, 0, none⟩) N N)).setCell ⟨T, 4, none⟩ (.int .i64 0)).setCell ⟨T, 5, none⟩ (.int .i64 0)).cell? ⟨G, i, none⟩ = w.cell? ⟨G, i, none⟩ := fun i => by
    rw [World.cell?_setCell_other _ _ _ _ (addr_ne (.inl (fun e => ne e.symm))), World.cell?_setCell_other _ _ _ _ (addr_ne (.inl (fun e => ne e.symm))), World.cell?_setCell_other _ _ _ _ (addr_ne (.inl (fun e => ne e.symm)))]
  have hfr : Fr (fun i => i = T) w (((w.setCell ⟨T, 3, none⟩ (.slice (some ⟨G, 0, none⟩) N N)).setCell ⟨T, 4, none⟩ (.int .i64 0)).setCell ⟨T, 5, none⟩ (.int .i64 0)) := ((Fr.setCell (S := fun i => i = T) _ ⟨T, 3, none⟩ rfl _).trans (Fr.setCell (S := fun i => i = T) _ ⟨T, 4, none⟩ rfl _)).trans (Fr.setCell (S := fun i => i = T) _ ⟨T, 5, none⟩ rfl _)
  have hlen : (List.replicate N zeroPl).length = N := List.length_replicate
  generalize (((w.setCell ⟨T, 3, none⟩ (.slice (some ⟨G, 0, none⟩) N N)).setCell ⟨T, 4, none⟩ (.int .i64 0)).setCell ⟨T, 5, none⟩ (.int .i64 0)) = W at *
  exact ⟨⟨h.a.keep (fun i hi => hot _ (by omega) (by omega) (by omega)) (fun i => hfz _) (fun _ => hfr.block G1 (h.a.ltG hl) (h.a.ne hl)), ⟨⟨some ⟨G, 0, none⟩, by show W.cell? ⟨T, 3, none⟩ = some (.slice (some ⟨G, 0, none⟩) (List.replicate N zeroPl).length (List.replicate N zeroPl).length); rw [hlen]; exact d3, fun _ => rfl⟩, d4, d5, fun i => (hfz _).trans (h.a.ft i), fun j hj => by rw [hg, hg, hg]; exact pl j hj, fun _ i => (hfz _).trans (fg i), fun _ => ne⟩, (hot 6 (by decide) (by decide) (by decide)).trans h.m, fun _ => ne1⟩, hfr⟩
end Go.Proofs.YtmjlhmohglbecaaGreatDoor.Ta
/- Package table: Step. Conditions: what is always so of a table. -/
namespace Go.Proofs.YtmjlhmohglbecaaGreatDoor.Ta
open Go.ChangeShapes Go.WideShapes Go.ChangeAt Go.RowKit
set_option maxHeartbeats 4000000 in
set_option maxRecDepth 100000 in
theorem step_calls (w : World) (T G1 G2 : Nat) (s : St) (hT : TAt w T G1 G2 s) (hO : OkS 0 s) :
    Calls Tryz.prog 69 #[.pointer (some ⟨T, 0, none⟩)] w fun en w' => en = .returned (.tuple #[]) ∧ ∃ G1' G2', TAt w' T G1' G2' (step s) ∧ Fr (own T G1 G2 s) w w' ∧ ∀ i, own T G1' G2' (step s) i → own T G1 G2 s i := by
  obtain ⟨b0, hb0, hb1⟩ := hT.b.c0
  have HM := Lib.hid (moving_calls w T b0 s.nxt.length hb0)
  have HT := Lib.hid hT
  have HO := Lib.hid hO
  clear hT
  by_cases hn : s.nxt.length = 0
  · have hn0 : ¬ (0 < s.nxt.length) := by omega
    have HZ : Hid (step s = s) := Lib.hid (by unfold step; rw [if_pos hn])
    rw [decide_eq_false hn0] at HM
    clear hb1 hb0 hO
    go_enter Tryz.func69, Tryz.ntmps69
    go_wp2_with fail
    refine HM.out.mono ?_; rintro en w2 ⟨rfl, rfl⟩
    go_wp2_with fail
    (try simp only [Exit.inBlock, Exit.then])
    refine bodyPost_ret (results_none rfl _ _ _) rfl ?_
    exact ⟨rfl, G1, G2, by rw [HZ.out]; exact HT.out, Fr.of_below (Below.refl _ _), fun i hi => by rw [HZ.out] at hi; exact hi⟩
  · have hn0 : 0 < s.nxt.length := by omega
    rw [decide_eq_true hn0] at HM
    have HJ : Hid (∀ j : Nat, j < 4 → Ok (j : Int) (mvN j s) → (mvN j s).now.length = s.now.length → (mvN j s).nxt.length = s.nxt.length → (mvN j s).mv = s.mv + j → (mvN j s).mv < (mvN j s).now.length ∧ Ok ((j + 1 : Nat) : Int) (mvN (j + 1) s) ∧ (mvN (j + 1) s).now.length = s.now.length ∧ (mvN (j + 1) s).nxt.length = s.nxt.length ∧ (mvN (j + 1) s).mv = s.mv + (j + 1)) := Lib.hid (fun j hj hok h1 h2 h3 => by
      have hm := hO.mn hn0
      have h8 := hO.p1.facts
      have h4 := hO.m4
      obtain ⟨x1, y1, z1⟩ := mv1_len (mvN j s)
      have hlt : (mvN j s).mv < (mvN j s).now.length := by omega
      have := mv1_ok hok (by omega) (by omega) hlt
      refine ⟨hlt, ?_, x1.trans h1, y1.trans h2, by show (mv1 (mvN j s)).mv = _; omega⟩
      rw [show ((j + 1 : Nat) : Int) = (j : Int) + 1 by omega]
      exact this)
    clear hb1 hb0 hO
    go_enter Tryz.func69, Tryz.ntmps69
    go_wp2_with fail
    refine HM.out.mono ?_; rintro en w2 ⟨rfl, rfl⟩
    go_wp2_with fail
    go_loopg [2, 6] 5 (fun g _ vi wr => ∃ j : Nat, vi = .int .i64 j ∧ j ≤ 4 ∧ 4 - j ≤ g ∧ Hid (TAt wr T G1 G2 (mvN j s)) ∧ Hid (Fr (own T G1 G2 s) w wr) ∧ Hid (Ok (j : Int) (mvN j s)) ∧ Hid ((mvN j s).now.length = s.now.length ∧ (mvN j s).nxt.length = s.nxt.length ∧ (mvN j s).mv = s.mv + j))
    case atStart => exact ⟨0, rfl, by omega, by omega, HT, Lib.hid (Fr.of_below (Below.refl _ _)), Lib.hid HO.out.toOk, Lib.hid ⟨rfl, rfl, rfl⟩⟩
    case round =>
      obtain ⟨j, rfl, hj, hg, HTj, HFj, HOj, HLj⟩ := hrel
      by_cases hj4 : j < 4
      case pos =>
        have hj4c : (j : Int) < 4 := by omega
        obtain ⟨hlt, hok', hl'⟩ := HJ.out j hj4 HOj.out HLj.out.1 HLj.out.2.1 HLj.out.2.2
        have HOK' := Lib.hid hok'
        have HL' := Lib.hid hl'
        clear hok' hl'
        have hun : Hid (0 < (mvN j s).nxt.length) := Lib.hid (by have := HLj.out; omega)
        have HOU := Lib.hid (fun i (h : own T G1 G2 (mvN j s) i) => (by
          rcases h with e | e | ⟨_, e⟩
          · exact .inl e
          · exact .inr (.inl e)
          · exact .inr (.inr ⟨hn0, e⟩) : own T G1 G2 s i))
        have HMV : Hid (mvN (j + 1) s = mv1 (mvN j s)) := Lib.hid rfl
        rw [HMV.out] at HOK' HL'
        generalize mvN j s = u at *
        obtain ⟨a0, c0, ha0⟩ := HTj.out.a.c0
        obtain rfl := ha0 (by omega)
        have c6 := HTj.out.m
        obtain ⟨g0, g1, g2⟩ := HTj.out.a.pl u.mv hlt
        have HQ := Lib.hid (pAt_lt hlt)
        have hmc : 0 ≤ (u.mv : Int) ∧ (u.mv : Int) < (u.now.length : Int) := by omega
        have hmc2 : (u.mv : Int) < (u.now.length : Int) := by omega
        have HB1 := Lib.hid HOj.out.b1
        generalize hqi : u.now[u.mv].i = qi at *
        have hb1 := HB1.out
        cases hq1 : (qi == (1 : Int))
        case false =>
          have HN := Lib.hid (fun w3 hb => mv_none (w3 := w3) HTj.out (by rw [HQ.out, hqi]; exact hq1) hb)
          go_wp2_with fail
          go_quiet (fail)
          obtain ⟨n6, nf, nt, nfr⟩ := HN.out (wr.drewN nq) (drewN_below _ _)
          have HNT := Lib.hid nt
          have HNF := Lib.hid (HFj.out.trans (nfr.mono HOU.out))
          clear nt nfr c0 c6 g0 g1 g2
          generalize wr.drewN nq = W1 at *
          go_wp2_with fail
          go_roundg (gk - 1)
          case measure => omega
          case rel => exact ⟨j + 1, by go_num, by omega, by omega, by rw [HMV.out]; exact HNT, HNF, by rw [HMV.out]; exact HOK', by rw [HMV.out]; exact HL'⟩
        case true =>
          go_wp2_with fail
          go_quiet (fail)
          have HT1 := Lib.hid (HTj.out.below (drewN_below wr nq))
          have HF1 := Lib.hid (HFj.out.trans (Fr.drewN wr nq))
          have c0 : (wr.drewN nq).cell? ⟨T, 0, none⟩ = some (.slice (some ⟨G1, 0, none⟩) u.now.length u.now.length) := c0
          have c6 : (wr.drewN nq).cell? ⟨T, 6, none⟩ = some (.int .i64 u.mv) := c6
          clear g0 g1 g2
          generalize wr.drewN nq = W1 at *
          have HBu := Lib.hid (buried HT1.out hlt hb1 HOj.out.a.rng)
          have HSb : Hid (∀ W', Below W1.heap.size W1 W' → (fun w' : World => w'.cell? ⟨T, 0, none⟩ = some (.slice (some ⟨G1, 0, none⟩) u.now.length u.now.length) ∧ w'.cell? ⟨T, 6, none⟩ = some (.int .i64 u.mv)) W') := Lib.hid (fun W' hb => ⟨(hb.cell (p := ⟨T, 0, none⟩) HT1.out.a.lt).trans c0, (hb.cell (p := ⟨T, 6, none⟩) HT1.out.a.lt).trans c6⟩)
          have E1 : Hid (∀ args w, (callFunc 100 args).run Tryz.prog w = .ok (.enter 100 args) w) := Lib.hid (enters_of_fn Tryz.func100 (by kernel_rfl) rfl)
          go_wp2_with fail
          go_cut [2] (fun v2 wc => ∃ b : Nat, v2 = .pointer (some ⟨b, 0, none⟩) ∧ Hid (Buried W1 wc T G1 u b))
          case first =>
            go_region_held3 (fun w' : World => w'.cell? ⟨T, 0, none⟩ = some (.slice (some ⟨G1, 0, none⟩) u.now.length u.now.length) ∧ w'.cell? ⟨T, 6, none⟩ = some (.int .i64 u.mv))
              (first | exact HSb.out _ (Below.refl _ _).drew | exact HSb.out _ ((Below.refl _ _).alloc (Nat.le_refl _) _).drew | exact S3.out | exact HS3.out _ | exact HS4.out _ _ _)
              (first
                | (refine step_callG ?hw 100 _ _ rfl #[.pointer (some ⟨T, 0, none⟩), .int .i64 (u.mv : Nat)] ?hx E1.out (HBu.out _ ?hb) ?_; (case hw => first | rfl | (simp [Region.wanted, yielded]; done)); (case hx => simp [Act.eval]; done); (case hb => first | exact (Below.refl _ _).drew | exact ((Below.refl _ _).alloc (Nat.le_refl _) _).drew); rintro v3 w3 ⟨rfl, hr3⟩; have HR3 := Lib.hid hr3; have S3 := Lib.hid (hr3.keeps (Nat.lt_of_le_of_lt (Nat.zero_le _) hlt) c6); (try obtain ⟨z0, z1, z2, y0, y1, y2⟩ := hr3.cells); have HS4 := Lib.hid (hr3.keeps4 HT1.out.a.lt (Nat.lt_of_le_of_lt (Nat.zero_le _) hlt) c6); have HS3 := Lib.hid (hr3.keeps2 (Nat.lt_of_le_of_lt (Nat.zero_le _) hlt) c6); clear hr3))
            · have HZ := Lib.hid (HR3.out.done1 93)
              go_wp2_with fail
              go_meet
              case rel => exact ⟨_, rfl, HZ⟩
            · have HZ := Lib.hid (HR3.out.done2 HT1.out.a.lt (HT1.out.a.ltG (Nat.lt_of_le_of_lt (Nat.zero_le _) hlt)) ⟨_, z0⟩ ⟨_, z1⟩ ⟨_, z2⟩)
              go_wp2_with fail
              go_meet
              case rel => exact ⟨_, rfl, HZ⟩
          case rest =>
            obtain ⟨b, rfl, HB⟩ := hcut
            have HP3 := Lib.hid (HT1.out.b.ch HB.out.k (.inr (Nat.le_refl _)) (fun hn => fun e => HT1.out.g hn e.symm))
            have HAd := Lib.hid (fun W (hb : Below wc.heap.size wc W) => add_calls W T 3 G2 u.nxt u.e2 u.d2 (HP3.out.below hb) (pAt u.now u.mv).k (hk (pAt u.now u.mv).k) (hsh_lt _) (pAt u.now u.mv).n (by have := HOj.out.b2; omega) hun.out (HOj.out.nxt0 (by omega) hun.out) (by have := HOj.out.b.rng; have := HOj.out.b2; omega) (by have := HOj.out.b.rng; have := HOj.out.b2; omega))
            have HHa := Lib.hid (fun W => hash_calls W (pAt u.now u.mv).k (by have := HOj.out.a.at_k u.mv; omega))
            obtain ⟨F, hF⟩ : ∃ F : Nat → World, ∀ x, F x = wc.drewN x := ⟨fun x => wc.drewN x, fun _ => rfl⟩
            have f1 : ∀ x, (F x).cell? ⟨b, 1, none⟩ = some (.string (pAt u.now u.mv).k) := fun x => by rw [hF]; exact HB.out.b1
            have f2 : ∀ x, (F x).cell? ⟨b, 2, none⟩ = some (.int .i64 (pAt u.now u.mv).n) := fun x => by rw [hF]; exact HB.out.b2
            have f3 : ∃ x, wc.drew = F x := ⟨1, by rw [hF]; rfl⟩
            have HF := Lib.hid hF
            have HMF := Lib.hid (fun w2 w3 hb p3 k3 => mv_full (w2 := w2) (w3 := w3) HT1.out hun.out (by rw [HQ.out, hqi]; exact hq1) HB.out.p HB.out.k hb p3 k3)
            clear hF c0 c6
            generalize pAt u.now u.mv = q at *
            generalize q.k = qk at *
            generalize q.n = qn at *
            go_upto_region 5 with fail
            refine wp_region_tail F 10 (by kernel_rfl) (by kernel_rfl) f3 ?_
            simp only [List.take_succ_cons, List.take_zero, List.drop_succ_cons, List.drop_zero]
            repeat (go_big_quiet_step ((go_at_call 71; exact quietD (HHa.out _))))
            refine wpQuiet_nil ?_
            intro x1
            have HB4 := Lib.hid (by rw [HF.out]; exact drewN_below wc x1 : Below wc.heap.size wc (F x1))
            clear f1 f2 f3 HF
            generalize F x1 = W2 at *
            go_wp2_with fail
            refine (HAd.out _ HB4.out).mono ?_; rintro en w4 ⟨rfl, hp4, hk4⟩
            obtain ⟨n6, nf, nt, nfr⟩ := HMF.out W2 w4 HB4.out hp4 hk4
            have HNT := Lib.hid nt
            have HNF := Lib.hid (HF1.out.trans (nfr.mono HOU.out))
            clear hp4 hk4 nt nfr
            go_wp2_with fail
            go_roundg (gk - 1)
            case measure => omega
            case rel => exact ⟨j + 1, by go_num, by omega, by omega, by rw [HMV.out]; exact HNT, HNF, by rw [HMV.out]; exact HOK', by rw [HMV.out]; exact HL'⟩
      case neg =>
        have hj4e : j = 4 := by omega
        have hj4c : ¬ ((j : Int) < 4) := by omega
        have HSP : Hid (step s = fin (mvN j s)) := Lib.hid (by rw [hj4e]; unfold step; rw [if_neg hn]; rfl)
        have HOU := Lib.hid (fun i (h : own T G1 G2 (mvN j s) i) => (by
          rcases h with e | e | ⟨_, e⟩
          · exact .inl e
          · exact .inr (.inl e)
          · exact .inr (.inr ⟨hn0, e⟩) : own T G1 G2 s i))
        have hun : Hid (0 < (mvN j s).nxt.length) := Lib.hid (by have := HLj.out; omega)
        generalize mvN j s = u at *
        obtain ⟨a0, c0, ha0⟩ := HTj.out.a.c0
        have c6 := HTj.out.m
        have HRo := Lib.hid (fun k => room_calls (wr.drewN k) T 0 a0 u.now.length c0)
        clear ha0
        by_cases he : u.mv = u.now.length
        · have heb : ((u.mv : Int) == (u.now.length : Int)) = true := by rw [he]; exact beq_self_eq_true _
          have Hhe := Lib.hid he
          clear he
          go_wp2_with fail
          go_quiet ((go_at_call 102; exact Calls.quiet_of_same ((HRo.out _).mono fun _ _ ⟨a, b⟩ => ⟨a, b.symm⟩)))
          have HTW := Lib.hid (HTj.out.below (drewN_below wr nq))
          have HFW := Lib.hid (HFj.out.trans (Fr.drewN wr nq))
          clear c0 c6
          generalize wr.drewN nq = W at *
          obtain ⟨x0, c0, -⟩ := HTW.out.a.c0
          obtain ⟨x3, c3, hx3⟩ := HTW.out.b.c0
          obtain rfl := hx3 hun.out
          have c1 := HTW.out.a.c1
          have c2 := HTW.out.a.c2
          have c4 := HTW.out.b.c1
          have c5 := HTW.out.b.c2
          have c6 := HTW.out.m
          have hft := HTW.out.a.ft
          have HZ := Lib.hid (setT_done (e := u.e2) (d := u.d2) HTW.out HTW.out.b.pl (HTW.out.b.fg hun.out) (HTW.out.b.ne hun.out))
          go_wp2_with fail
          go_end0
          have hS : step s = ⟨u.nxt, u.e2, u.d2, [], 0, 0, 0⟩ := by rw [HSP.out]; unfold fin; rw [if_pos Hhe.out]
          exact ⟨rfl, G2, G2, by rw [hS]; exact HZ.out.1, HFW.out.trans (HZ.out.2.mono fun i e => .inl e), fun i hi => by
            rw [hS] at hi
            rcases hi with e | e | ⟨e, -⟩
            · exact .inl e
            · exact .inr (.inr ⟨hn0, e⟩)
            · exact absurd e (Nat.lt_irrefl _)⟩
        · have heb : ((u.mv : Int) == (u.now.length : Int)) = false := beq_eq_false_iff_ne.2 (by omega)
          have HZ : Hid (step s = u) := Lib.hid (by rw [HSP.out]; unfold fin; rw [if_neg he])
          clear he
          go_wp2_with fail
          go_quiet ((go_at_call 102; exact Calls.quiet_of_same ((HRo.out _).mono fun _ _ ⟨a, b⟩ => ⟨a, b.symm⟩)))
          go_wp2_with fail
          go_end0
          exact ⟨rfl, G1, G2, by rw [HZ.out]; exact HTj.out.below (drewN_below _ _), HFj.out.trans (Fr.drewN _ _), fun i hi => by rw [HZ.out] at hi; exact HOU.out i hi⟩
end Go.Proofs.YtmjlhmohglbecaaGreatDoor.Ta
/- Package table: Put. Conditions: what is always so of a table; bounds. -/
namespace Go.Proofs.YtmjlhmohglbecaaGreatDoor.Ta
open Go.ChangeShapes Go.WideShapes Go.ChangeAt Go.RowKit
/-- What add leaves. -/
theorem ins_done3 {w w' : World} {T G1 G2 : Nat} {u : St} (h : TAt w T G1 G2 u) (hn : 0 < u.nxt.length) (k : ByteArray) (n : Int) (p : PAt w' T 3 G2 (u.nxt.set (addI u.nxt (hk k)) ⟨1, k, n⟩) (u.e2 + 1) (addD u.nxt (addI u.nxt (hk k)) u.d2)) (c : Ch T 3 G2 w w') : Moved T G1 G2 u w (ins u k n) w' := by
  unfold ins
  rw [if_pos hn]
  exact ⟨G1, G2, ⟨h.a.ch c (.inl (Nat.le_refl _)) (fun _ => h.g hn), p, (c.ot 6 (by omega)).trans h.m, fun _ => h.g hn⟩, c.fr.mono fun i e => by rcases e with e | e; exact .inl e; exact .inr (.inr ⟨hn, e⟩), fun i hi => .inl (by
    rcases hi with e | e | ⟨_, e⟩
    · exact .inl e
    · exact .inr (.inl e)
    · exact .inr (.inr ⟨hn, e⟩))⟩
theorem ins_done0 {w w' : World} {T G1 G2 : Nat} {u : St} (h : TAt w T G1 G2 u) (hn : ¬ 0 < u.nxt.length) (k : ByteArray) (n : Int) (p : PAt w' T 0 G1 (u.now.set (addI u.now (hk k)) ⟨1, k, n⟩) (u.e1 + 1) (addD u.now (addI u.now (hk k)) u.d1)) (c : Ch T 0 G1 w w') : Moved T G1 G2 u w (ins u k n) w' := by
  unfold ins
  rw [if_neg hn]
  exact ⟨G1, G2, ⟨p, h.b.ch c (.inr (Nat.le_refl _)) (fun e => absurd e hn), (c.ot 6 (by omega)).trans h.m, fun e => absurd e hn⟩, c.fr.mono fun i e => by rcases e with e | e; exact .inl e; exact .inr (.inl e), fun i hi => .inl hi⟩
set_option maxHeartbeats 4000000 in
set_option maxRecDepth 100000 in
theorem put_calls (w : World) (T G1 G2 : Nat) (s : St) (hT : TAt w T G1 G2 s) (hO : OkS 0 s) (hl : lenS s ≤ 511) (k : ByteArray) (hk1 : k.size ≤ 1000) (n : Int) :
    Calls Tryz.prog 75 #[.pointer (some ⟨T, 0, none⟩), .string k, .int .i64 n] w fun en w' => en = .returned (.bool (fnd (step s) k (hk k)).isNone) ∧ Moved T G1 G2 s w (putS (step s) k n) w' := by
  have HS := Lib.hid (step_calls w T G1 G2 s hT hO)
  have hO4 := step_ok hO
  have hl4 : lenS (step s) ≤ 511 := by rw [step_len hO]; exact hl
  have HMT : Hid (∀ {H1 H2 : Nat} {s2 : St} {w1 w2 : World}, Fr (own T G1 G2 s) w w1 → (∀ i, own T H1 H2 (step s) i → own T G1 G2 s i) → Moved T H1 H2 (step s) w1 s2 w2 → Moved T G1 G2 s w s2 w2) := Lib.hid (fun a b c => Moved.trans a (fun i hi => .inl (b i hi)) c)
  clear hT hO hl
  generalize step s = u at *
  have HO := Lib.hid hO4
  have HL := Lib.hid hl4
  clear hO4 hl4
  go_enter Tryz.func75, Tryz.ntmps75
  go_wp2_with fail
  refine HS.out.mono ?_; rintro en w1 ⟨rfl, A, B, hT1, hf1, ho1⟩
  have HT1 := Lib.hid hT1
  have HM1 : Hid (∀ {s2 : St} {w2 : World}, Moved T A B u w1 s2 w2 → Moved T G1 G2 s w s2 w2) := Lib.hid (fun c => HMT.out hf1 ho1 c)
  clear hT1 hf1 ho1 HS HMT
  have HHa := Lib.hid (fun W => hash_calls W k (by omega))
  have HFi := Lib.hid (tfind_calls w1 T A B u HT1.out HO.out.toOk (by omega) k (hk k) (hsh_lt _))
  go_wp2_with fail
  refine (HHa.out _).mono ?_; rintro en w2 ⟨rfl, rfl⟩
  go_wp2_with fail
  cases hf : fnd u k (hk k) with
  | some r =>
    obtain ⟨b, p⟩ := r
    have HPS : Hid (putS u k n = if b then { u with nxt := setN u.nxt p n } else { u with now := setN u.now p n }) := Lib.hid (by unfold putS; rw [hf]; cases b <;> rfl)
    cases b with
    | false =>
      have HIN : Hid ((fnd u k (hk k)).isNone = false) := Lib.hid (by rw [hf]; rfl)
      have HFi2 : Hid (Calls Tryz.prog 70 #[.pointer (some ⟨T, 0, none⟩), .string k, .int .u64 (hk k : Nat)] w1 fun e w' => e = .returned (.tuple #[.pointer (some ⟨T, 0, none⟩), .int .i64 (p : Nat)]) ∧ Below w1.heap.size w1 w') := Lib.hid (by have h := HFi.out; rw [hf] at h; exact h)
      refine HFi2.out.mono ?_; rintro en w2 ⟨rfl, hb2⟩
      have HT2 := Lib.hid (HT1.out.below hb2)
      have HM2 : Hid (∀ {s2 : St} {w3 : World}, Moved T A B u w2 s2 w3 → Moved T G1 G2 s w s2 w3) := Lib.hid (fun c => HM1.out (Moved.trans (Fr.of_below hb2) (fun i hi => .inl hi) c))
      clear hb2 HFi HFi2 HM1 HT1
      obtain ⟨hp, -, -⟩ := findP_ok (fnd_now hf)
      obtain ⟨x0, c0, hx⟩ := HT2.out.a.c0
      obtain rfl := hx (by omega)
      have hc := (HT2.out.a.pl p hp).2.2
      have hfg := HT2.out.a.fg (by omega)
      have HZ := Lib.hid (put_found0 HT2.out p hp n)
      have hpc : (p : Int) < (u.now.length : Int) := by omega
      clear hf hx
      go_wp2_with fail
      go_ret
      exact ⟨by rw [HIN.out]; rfl, HM2.out (by rw [HPS.out]; exact HZ.out)⟩
    | true =>
      have HIN : Hid ((fnd u k (hk k)).isNone = false) := Lib.hid (by rw [hf]; rfl)
      have HFi2 : Hid (Calls Tryz.prog 70 #[.pointer (some ⟨T, 0, none⟩), .string k, .int .u64 (hk k : Nat)] w1 fun e w' => e = .returned (.tuple #[.pointer (some ⟨T, 3, none⟩), .int .i64 (p : Nat)]) ∧ Below w1.heap.size w1 w') := Lib.hid (by have h := HFi.out; rw [hf] at h; exact h)
      refine HFi2.out.mono ?_; rintro en w2 ⟨rfl, hb2⟩
      have HT2 := Lib.hid (HT1.out.below hb2)
      have HM2 : Hid (∀ {s2 : St} {w3 : World}, Moved T A B u w2 s2 w3 → Moved T G1 G2 s w s2 w3) := Lib.hid (fun c => HM1.out (Moved.trans (Fr.of_below hb2) (fun i hi => .inl hi) c))
      clear hb2 HFi HFi2 HM1 HT1
      obtain ⟨hp, -, -⟩ := findP_ok (fnd_nxt hf).2
      obtain ⟨x0, c0, hx⟩ := HT2.out.b.c0
      obtain rfl := hx (by omega)
      have hc := (HT2.out.b.pl p hp).2.2
      have hfg := HT2.out.b.fg (by omega)
      have HZ := Lib.hid (put_found3 HT2.out p hp n)
      have hpc : (p : Int) < (u.nxt.length : Int) := by omega
      clear hf hx
      go_wp2_with fail
      go_ret
      exact ⟨by rw [HIN.out]; rfl, HM2.out (by rw [HPS.out]; exact HZ.out)⟩
  | none =>
    have HIN : Hid ((fnd u k (hk k)).isNone = true) := Lib.hid (by rw [hf]; rfl)
    have HFi2 : Hid (Calls Tryz.prog 70 #[.pointer (some ⟨T, 0, none⟩), .string k, .int .u64 (hk k : Nat)] w1 fun e w' => e = .returned (.tuple #[.pointer none, .int .i64 (0 : Nat)]) ∧ Below w1.heap.size w1 w') := Lib.hid (by have h := HFi.out; rw [hf] at h; exact h)
    refine HFi2.out.mono ?_; rintro en w2 ⟨rfl, hb2⟩
    have HT2 := Lib.hid (HT1.out.below hb2)
    have HM2 : Hid (∀ {s2 : St} {w3 : World}, Moved T A B u w2 s2 w3 → Moved T G1 G2 s w s2 w3) := Lib.hid (fun c => HM1.out (Moved.trans (Fr.of_below hb2) (fun i hi => .inl hi) c))
    clear hb2 HFi HFi2 HM1 HT1
    have HPS : Hid (putS u k n = ins (beg u) k n) := Lib.hid (by unfold putS; rw [hf])
    clear hf
    obtain ⟨x3, c3, hx3⟩ := HT2.out.b.c0
    have HMo := Lib.hid (moving_calls w2 T x3 u.nxt.length c3)
    have hE := Lib.hid (HO.out.b.rng)
    by_cases hn : 0 < u.nxt.length
    · rw [decide_eq_true hn] at HMo
      have HBG : Hid (beg u = u) := Lib.hid (by unfold beg; rw [if_neg (by omega)])
      have HAd := Lib.hid (add_calls w2 T 3 B u.nxt u.e2 u.d2 HT2.out.b k (hk k) (hsh_lt _) n (by have := HO.out.b2; omega) hn (HO.out.nxt0 (by omega) hn) (by have := hE.out; have := HO.out.b2; omega) (by have := hE.out; have := HO.out.b2; omega))
      clear hx3
      go_wp2_with fail
      refine HMo.out.mono ?_; rintro en w3 ⟨rfl, rfl⟩
      go_wp2_with fail
      refine HMo.out.mono ?_; rintro en w3 ⟨rfl, rfl⟩
      go_wp2_with fail
      refine HAd.out.mono ?_; rintro en w4 ⟨rfl, hp4, hk4⟩
      have HZ := Lib.hid (ins_done3 HT2.out hn k n hp4 hk4)
      clear hp4 hk4
      go_wp2_with fail
      go_ret
      exact ⟨by rw [HIN.out]; rfl, HM2.out (by rw [HPS.out, HBG.out]; exact HZ.out)⟩
    · rw [decide_eq_false hn] at HMo
      obtain ⟨x0, c0, hx0⟩ := HT2.out.a.c0
      have hp1 := HO.out.p1.facts
      have hb1 := HO.out.b1
      have hA := HO.out.a.rng
      have HCr := Lib.hid (crowded_calls w2 T 0 x0 u.now.length u.e1 u.d1 c0 HT2.out.a.c1 HT2.out.a.c2 (by omega) (by omega) (by omega))
      cases hcr : decide ((u.now.length : Int) / 2 ≤ u.e1 + u.d1)
      · rw [hcr] at HCr
        have HBG : Hid (beg u = u) := Lib.hid (by unfold beg; rw [if_neg (fun h => of_decide_eq_false hcr h.2)])
        clear hx3 hx0
        go_wp2_with fail
        refine HMo.out.mono ?_; rintro en w3 ⟨rfl, rfl⟩
        go_wp2_with fail
        refine HCr.out.mono ?_; rintro en w3 ⟨rfl, kk, rfl⟩
        have HT3 := Lib.hid (HT2.out.below (drewN_below w2 kk))
        have HM3 : Hid (∀ {s2 : St} {w3 : World}, Moved T A B u (w2.drewN kk) s2 w3 → Moved T G1 G2 s w s2 w3) := Lib.hid (fun c => HM2.out (Moved.trans (Fr.drewN w2 kk) (fun i hi => .inl hi) c))
        have HMo3 := Lib.hid (moving_calls (w2.drewN kk) T x3 u.nxt.length c3)
        rw [decide_eq_false hn] at HMo3
        have HAd := Lib.hid (add_calls (w2.drewN kk) T 0 A u.now u.e1 u.d1 HT3.out.a k (hk k) (hsh_lt _) n (by omega) (by omega) HO.out.now0 (by omega) (by omega))
        generalize w2.drewN kk = W3 at *
        go_wp2_with fail
        refine HMo3.out.mono ?_; rintro en w3 ⟨rfl, rfl⟩
        go_wp2_with fail
        refine HAd.out.mono ?_; rintro en w4 ⟨rfl, hp4, hk4⟩
        have HZ := Lib.hid (ins_done0 HT3.out hn k n hp4 hk4)
        clear hp4 hk4
        go_wp2_with fail
        go_ret
        exact ⟨by rw [HIN.out]; rfl, HM3.out (by rw [HPS.out, HBG.out]; exact HZ.out)⟩
      · rw [hcr] at HCr
        have HBG : Hid (beg u = { u with nxt := List.replicate (nextR u) zeroPl, e2 := 0, d2 := 0 }) := Lib.hid (by unfold beg; rw [if_pos ⟨by omega, of_decide_eq_true hcr⟩])
        have HBO := Lib.hid (beg_ok HO.out HL.out)
        have HNR := Lib.hid (nextR_ok HO.out.toOk HL.out)
        clear hx3 hx0
        go_wp2_with fail
        refine HMo.out.mono ?_; rintro en w3 ⟨rfl, rfl⟩
        go_wp2_with fail
        refine HCr.out.mono ?_; rintro en w3 ⟨rfl, kk, rfl⟩
        have HT3 := Lib.hid (HT2.out.below (drewN_below w2 kk))
        have HM3 : Hid (∀ {s2 : St} {w3 : World}, Moved T A B u (w2.drewN kk) s2 w3 → Moved T G1 G2 s w s2 w3) := Lib.hid (fun c => HM2.out (Moved.trans (Fr.drewN w2 kk) (fun i hi => .inl hi) c))
        clear c0 c3
        generalize w2.drewN kk = W3 at *
        have HNx := Lib.hid (nextRoom_calls W3 T A B u HT3.out HO.out.toOk HL.out)
        go_wp2_with fail
        refine HNx.out.mono ?_; rintro en w4 ⟨rfl, k4, rfl⟩
        have HT4 := Lib.hid (HT3.out.below (drewN_below W3 k4))
        have HM4 : Hid (∀ {s2 : St} {w3 : World}, Moved T A B u (W3.drewN k4) s2 w3 → Moved T G1 G2 s w s2 w3) := Lib.hid (fun c => HM3.out (Moved.trans (Fr.drewN W3 k4) (fun i hi => .inl hi) c))
        generalize W3.drewN k4 = W4 at *
        have HOR := Lib.hid (ofRoom_calls W4 (nextR u) (by have := HNR.out; omega))
        go_wp2_with fail
        refine HOR.out.mono ?_; rintro en w5 ⟨rfl, hb5, hz5, hh5⟩
        have HT5 := Lib.hid (HT4.out.below hb5)
        have HTl := HT4.out.a.lt
        have HGl := HT4.out.a.ltG (by omega)
        obtain ⟨f1, f2⟩ := fresh_cells hh5
        have HB5 := Lib.hid (beg_done (G := W4.heap.size + 1) HT5.out (by omega) f1 f2 (by omega) (by omega))
        have HM5 : Hid (∀ {s2 : St} {w3 : World}, Moved T A (W4.heap.size + 1) (beg u) (((w5.setCell ⟨T, 3, none⟩ (.slice (some ⟨W4.heap.size + 1, 0, none⟩) (nextR u) (nextR u))).setCell ⟨T, 4, none⟩ (.int .i64 0)).setCell ⟨T, 5, none⟩ (.int .i64 0)) s2 w3 → Moved T G1 G2 s w s2 w3) := Lib.hid (fun c => HM4.out (Moved.trans ((Fr.of_below hb5).trans (HB5.out.2.mono fun i e => .inl e)) (fun i hi => by
          rcases hi with e | e | ⟨_, e⟩
          · exact .inl (.inl e)
          · exact .inl (.inr (.inl e))
          · exact .inr (by omega)) c))
        obtain ⟨y3, d3, -⟩ := HT5.out.b.c0
        have d4 := HT5.out.b.c1
        have d5 := HT5.out.b.c2
        have dft := HT5.out.a.ft
        have HT6 := Lib.hid HB5.out.1
        clear hb5 hh5 f1 f2 HB5
        rw [← HBG.out] at HT6
        have hnn : 0 < (beg u).nxt.length := by rw [HBG.out]; show 0 < (List.replicate (nextR u) zeroPl).length; rw [List.length_replicate]; have := HNR.out.1.facts; omega
        go_upto_region 9 with fail
        generalize (((w5.setCell ⟨T, 3, none⟩ (.slice (some ⟨W4.heap.size + 1, 0, none⟩) (nextR u) (nextR u))).setCell ⟨T, 4, none⟩ (.int .i64 0)).setCell ⟨T, 5, none⟩ (.int .i64 0)) = W6 at *
        clear d3 d4 d5 dft
        generalize beg u = v at *
        obtain ⟨y3, c3, hx3⟩ := HT6.out.b.c0
        have HMo6 := Lib.hid (moving_calls W6 T y3 v.nxt.length c3)
        rw [decide_eq_true hnn] at HMo6
        have HAd := Lib.hid (add_calls W6 T 3 (W4.heap.size + 1) v.nxt v.e2 v.d2 HT6.out.b k (hk k) (hsh_lt _) n (by have := HBO.out.1.b2; omega) hnn (HBO.out.1.nxt0 (by omega) hnn) (by have := HBO.out.1.b.rng; have := HBO.out.1.b2; omega) (by have := HBO.out.1.b.rng; have := HBO.out.1.b2; omega))
        clear hx3
        go_wp2_with fail
        refine HMo6.out.mono ?_; rintro en w3 ⟨rfl, rfl⟩
        go_wp2_with fail
        refine HAd.out.mono ?_; rintro en w4 ⟨rfl, hp4, hk4⟩
        have HZ := Lib.hid (ins_done3 HT6.out hnn k n hp4 hk4)
        clear hp4 hk4
        go_wp2_with fail
        go_ret
        exact ⟨by rw [HIN.out]; rfl, HM5.out (by rw [HPS.out]; exact HZ.out)⟩
end Go.Proofs.YtmjlhmohglbecaaGreatDoor.Ta
/- Package table: Drop, Get. Conditions: what is always so of a table; bounds. -/
namespace Go.Proofs.YtmjlhmohglbecaaGreatDoor.Ta
open Go.ChangeShapes Go.WideShapes Go.ChangeAt Go.RowKit
theorem bury_done0 {w w' : World} {T G1 G2 : Nat} {u : St} (h : TAt w T G1 G2 u) (p : Nat) (q : PAt w' T 0 G1 (u.now.set p gravePl) (u.e1 - 1) (u.d1 + 1)) (c : Ch T 0 G1 w w') : Moved T G1 G2 u w { u with now := u.now.set p gravePl, e1 := u.e1 - 1, d1 := u.d1 + 1 } w' :=
  ⟨G1, G2, ⟨q, h.b.ch c (.inr (Nat.le_refl _)) (fun hn e => h.g hn e.symm), (c.ot 6 (by omega)).trans h.m, h.g⟩, c.fr.mono fun i e => by rcases e with e | e; exact .inl e; exact .inr (.inl e), fun i hi => .inl hi⟩
theorem bury_done3 {w w' : World} {T G1 G2 : Nat} {u : St} (h : TAt w T G1 G2 u) (p : Nat) (hn : 0 < u.nxt.length) (q : PAt w' T 3 G2 (u.nxt.set p gravePl) (u.e2 - 1) (u.d2 + 1)) (c : Ch T 3 G2 w w') : Moved T G1 G2 u w { u with nxt := u.nxt.set p gravePl, e2 := u.e2 - 1, d2 := u.d2 + 1 } w' :=
  ⟨G1, G2, ⟨h.a.ch c (.inl (Nat.le_refl _)) (fun _ => h.g hn), q, (c.ot 6 (by omega)).trans h.m, fun _ => h.g hn⟩, c.fr.mono fun i e => by rcases e with e | e; exact .inl e; exact .inr (.inr ⟨hn, e⟩), fun i hi => .inl (by
    rcases hi with e | e | ⟨_, e⟩
    · exact .inl e
    · exact .inr (.inl e)
    · exact .inr (.inr ⟨hn, e⟩))⟩
@[go_sem] theorem field_n (w : World) (x y z : Value) : (Instr.field 93 (.agg #[x, y, z]) 2).run Tryz.prog w = .ok z w := by kernel_rfl
set_option maxHeartbeats 4000000 in
set_option maxRecDepth 100000 in
theorem drop_calls (w : World) (T G1 G2 : Nat) (s : St) (hT : TAt w T G1 G2 s) (hO : OkS 0 s) (k : ByteArray) (hk1 : k.size ≤ 1000) :
    Calls Tryz.prog 83 #[.pointer (some ⟨T, 0, none⟩), .string k] w fun en w' => en = .returned (.tuple #[.int .i64 (valS (step s) k), .bool (fnd (step s) k (hk k)).isSome]) ∧ Moved T G1 G2 s w (dropS (step s) k) w' := by
  have HS := Lib.hid (step_calls w T G1 G2 s hT hO)
  have hO4 := step_ok hO
  have HMT : Hid (∀ {H1 H2 : Nat} {s2 : St} {w1 w2 : World}, Fr (own T G1 G2 s) w w1 → (∀ i, own T H1 H2 (step s) i → own T G1 G2 s i) → Moved T H1 H2 (step s) w1 s2 w2 → Moved T G1 G2 s w s2 w2) := Lib.hid (fun a b c => Moved.trans a (fun i hi => .inl (b i hi)) c)
  clear hT hO
  generalize step s = u at *
  have HO := Lib.hid hO4
  clear hO4
  go_enter Tryz.func83, Tryz.ntmps83
  go_wp2_with fail
  refine HS.out.mono ?_; rintro en w1 ⟨rfl, A, B, hT1, hf1, ho1⟩
  have HT1 := Lib.hid hT1
  have HM1 : Hid (∀ {s2 : St} {w2 : World}, Moved T A B u w1 s2 w2 → Moved T G1 G2 s w s2 w2) := Lib.hid (fun c => HMT.out hf1 ho1 c)
  clear hT1 hf1 ho1 HS HMT
  have HHa := Lib.hid (fun W => hash_calls W k (by omega))
  have HFi := Lib.hid (tfind_calls w1 T A B u HT1.out HO.out.toOk (by omega) k (hk k) (hsh_lt _))
  go_wp2_with fail
  refine (HHa.out _).mono ?_; rintro en w2 ⟨rfl, rfl⟩
  go_wp2_with fail
  cases hf : fnd u k (hk k) with
  | some r =>
    obtain ⟨b, p⟩ := r
    cases b with
    | false =>
      have HV : Hid (valS u k = (pAt u.now p).n ∧ (fnd u k (hk k)).isSome = true ∧ dropS u k = { u with now := u.now.set p gravePl, e1 := u.e1 - 1, d1 := u.d1 + 1 }) := Lib.hid (by unfold valS dropS; rw [hf]; exact ⟨rfl, rfl, rfl⟩)
      have HFi2 : Hid (Calls Tryz.prog 70 #[.pointer (some ⟨T, 0, none⟩), .string k, .int .u64 (hk k : Nat)] w1 fun e w' => e = .returned (.tuple #[.pointer (some ⟨T, 0, none⟩), .int .i64 (p : Nat)]) ∧ Below w1.heap.size w1 w') := Lib.hid (by have h := HFi.out; rw [hf] at h; exact h)
      refine HFi2.out.mono ?_; rintro en w2 ⟨rfl, hb2⟩
      have HT2 := Lib.hid (HT1.out.below hb2)
      have HM2 : Hid (∀ {s2 : St} {w3 : World}, Moved T A B u w2 s2 w3 → Moved T G1 G2 s w s2 w3) := Lib.hid (fun c => HM1.out (Moved.trans (Fr.of_below hb2) (fun i hi => .inl hi) c))
      clear hb2 HFi HFi2 HM1 HT1
      obtain ⟨hp, -, -⟩ := findP_ok (fnd_now hf)
      have HBu := Lib.hid (bury_calls w2 T 0 A u.now u.e1 u.d1 HT2.out.a p hp (by have := HO.out.b1; omega) (by have := HO.out.a.rng; have := HO.out.b1; omega) (by have := HO.out.a.rng; have := HO.out.b1; omega))
      clear hf
      go_wp2_with fail
      refine HBu.out.mono ?_; rintro en w3 ⟨rfl, hp3, hk3⟩
      have HZ := Lib.hid (bury_done0 HT2.out p hp3 hk3)
      clear hp3 hk3
      go_wp2_with fail
      go_ret2
      exact ⟨by rw [HV.out.1, HV.out.2.1]; rfl, HM2.out (by rw [HV.out.2.2]; exact HZ.out)⟩
    | true =>
      have HV : Hid (valS u k = (pAt u.nxt p).n ∧ (fnd u k (hk k)).isSome = true ∧ dropS u k = { u with nxt := u.nxt.set p gravePl, e2 := u.e2 - 1, d2 := u.d2 + 1 }) := Lib.hid (by unfold valS dropS; rw [hf]; exact ⟨rfl, rfl, rfl⟩)
      have HFi2 : Hid (Calls Tryz.prog 70 #[.pointer (some ⟨T, 0, none⟩), .string k, .int .u64 (hk k : Nat)] w1 fun e w' => e = .returned (.tuple #[.pointer (some ⟨T, 3, none⟩), .int .i64 (p : Nat)]) ∧ Below w1.heap.size w1 w') := Lib.hid (by have h := HFi.out; rw [hf] at h; exact h)
      refine HFi2.out.mono ?_; rintro en w2 ⟨rfl, hb2⟩
      have HT2 := Lib.hid (HT1.out.below hb2)
      have HM2 : Hid (∀ {s2 : St} {w3 : World}, Moved T A B u w2 s2 w3 → Moved T G1 G2 s w s2 w3) := Lib.hid (fun c => HM1.out (Moved.trans (Fr.of_below hb2) (fun i hi => .inl hi) c))
      clear hb2 HFi HFi2 HM1 HT1
      obtain ⟨hp, -, -⟩ := findP_ok (fnd_nxt hf).2
      have HBu := Lib.hid (bury_calls w2 T 3 B u.nxt u.e2 u.d2 HT2.out.b p hp (by have := HO.out.b2; omega) (by have := HO.out.b.rng; have := HO.out.b2; omega) (by have := HO.out.b.rng; have := HO.out.b2; omega))
      clear hf
      go_wp2_with fail
      refine HBu.out.mono ?_; rintro en w3 ⟨rfl, hp3, hk3⟩
      have HZ := Lib.hid (bury_done3 HT2.out p (by omega) hp3 hk3)
      clear hp3 hk3
      go_wp2_with fail
      go_ret2
      exact ⟨by rw [HV.out.1, HV.out.2.1]; rfl, HM2.out (by rw [HV.out.2.2]; exact HZ.out)⟩
  | none =>
    have HV : Hid (valS u k = 0 ∧ (fnd u k (hk k)).isSome = false ∧ dropS u k = u) := Lib.hid (by unfold valS dropS; rw [hf]; exact ⟨rfl, rfl, rfl⟩)
    have HFi2 : Hid (Calls Tryz.prog 70 #[.pointer (some ⟨T, 0, none⟩), .string k, .int .u64 (hk k : Nat)] w1 fun e w' => e = .returned (.tuple #[.pointer none, .int .i64 (0 : Nat)]) ∧ Below w1.heap.size w1 w') := Lib.hid (by have h := HFi.out; rw [hf] at h; exact h)
    refine HFi2.out.mono ?_; rintro en w2 ⟨rfl, hb2⟩
    have HZ : Hid (Moved T G1 G2 s w u w2) := Lib.hid (HM1.out ⟨A, B, HT1.out.below hb2, Fr.of_below hb2, fun i hi => .inl hi⟩)
    clear hb2 HFi HFi2 HM1 HT1 hf
    go_wp2_with fail
    go_ret2
    exact ⟨by rw [HV.out.1, HV.out.2.1]; rfl, by rw [HV.out.2.2]; exact HZ.out⟩
set_option maxHeartbeats 4000000 in
set_option maxRecDepth 100000 in
theorem get_calls (w : World) (T G1 G2 : Nat) (s : St) (hT : TAt w T G1 G2 s) (hO : OkS 0 s) (k : ByteArray) (hk1 : k.size ≤ 1000) :
    Calls Tryz.prog 45 #[.pointer (some ⟨T, 0, none⟩), .string k] w fun en w' => en = .returned (.tuple #[.int .i64 (valS (step s) k), .bool (fnd (step s) k (hk k)).isSome]) ∧ Moved T G1 G2 s w (step s) w' := by
  have HS := Lib.hid (step_calls w T G1 G2 s hT hO)
  have hO4 := step_ok hO
  have HMT : Hid (∀ {H1 H2 : Nat} {s2 : St} {w1 w2 : World}, Fr (own T G1 G2 s) w w1 → (∀ i, own T H1 H2 (step s) i → own T G1 G2 s i) → Moved T H1 H2 (step s) w1 s2 w2 → Moved T G1 G2 s w s2 w2) := Lib.hid (fun a b c => Moved.trans a (fun i hi => .inl (b i hi)) c)
  clear hT hO
  generalize step s = u at *
  have HO := Lib.hid hO4
  clear hO4
  go_enter Tryz.func45, Tryz.ntmps45
  go_wp2_with fail
  refine HS.out.mono ?_; rintro en w1 ⟨rfl, A, B, hT1, hf1, ho1⟩
  have HT1 := Lib.hid hT1
  have HM1 : Hid (∀ {s2 : St} {w2 : World}, Moved T A B u w1 s2 w2 → Moved T G1 G2 s w s2 w2) := Lib.hid (fun c => HMT.out hf1 ho1 c)
  clear hT1 hf1 ho1 HS HMT
  have HHa := Lib.hid (fun W => hash_calls W k (by omega))
  have HFi := Lib.hid (tfind_calls w1 T A B u HT1.out HO.out.toOk (by omega) k (hk k) (hsh_lt _))
  go_wp2_with fail
  refine (HHa.out _).mono ?_; rintro en w2 ⟨rfl, rfl⟩
  go_wp2_with fail
  cases hf : fnd u k (hk k) with
  | some r =>
    obtain ⟨b, p⟩ := r
    cases b with
    | false =>
      have HV : Hid (valS u k = (pAt u.now p).n ∧ (fnd u k (hk k)).isSome = true) := Lib.hid (by unfold valS; rw [hf]; exact ⟨rfl, rfl⟩)
      have HFi2 : Hid (Calls Tryz.prog 70 #[.pointer (some ⟨T, 0, none⟩), .string k, .int .u64 (hk k : Nat)] w1 fun e w' => e = .returned (.tuple #[.pointer (some ⟨T, 0, none⟩), .int .i64 (p : Nat)]) ∧ Below w1.heap.size w1 w') := Lib.hid (by have h := HFi.out; rw [hf] at h; exact h)
      refine HFi2.out.mono ?_; rintro en w2 ⟨rfl, hb2⟩
      have HT2 := Lib.hid (HT1.out.below hb2)
      have HZ : Hid (Moved T G1 G2 s w u w2) := Lib.hid (HM1.out ⟨A, B, HT1.out.below hb2, Fr.of_below hb2, fun i hi => .inl hi⟩)
      clear hb2 HFi HFi2 HM1 HT1
      obtain ⟨hp, -, -⟩ := findP_ok (fnd_now hf)
      obtain ⟨x0, c0, hx⟩ := HT2.out.a.c0
      obtain rfl := hx (by omega)
      have hc := (HT2.out.a.pl p hp).2.2
      rw [← pAt_lt hp] at hc
      have hpc : (p : Int) < (u.now.length : Int) := by omega
      clear hf hx
      go_wp2_with fail
      go_ret2
      exact ⟨by rw [HV.out.1, HV.out.2]; rfl, HZ.out⟩
    | true =>
      have HV : Hid (valS u k = (pAt u.nxt p).n ∧ (fnd u k (hk k)).isSome = true) := Lib.hid (by unfold valS; rw [hf]; exact ⟨rfl, rfl⟩)
      have HFi2 : Hid (Calls Tryz.prog 70 #[.pointer (some ⟨T, 0, none⟩), .string k, .int .u64 (hk k : Nat)] w1 fun e w' => e = .returned (.tuple #[.pointer (some ⟨T, 3, none⟩), .int .i64 (p : Nat)]) ∧ Below w1.heap.size w1 w') := Lib.hid (by have h := HFi.out; rw [hf] at h; exact h)
      refine HFi2.out.mono ?_; rintro en w2 ⟨rfl, hb2⟩
      have HT2 := Lib.hid (HT1.out.below hb2)
      have HZ : Hid (Moved T G1 G2 s w u w2) := Lib.hid (HM1.out ⟨A, B, HT1.out.below hb2, Fr.of_below hb2, fun i hi => .inl hi⟩)
      clear hb2 HFi HFi2 HM1 HT1
      obtain ⟨hp, -, -⟩ := findP_ok (fnd_nxt hf).2
      obtain ⟨x0, c0, hx⟩ := HT2.out.b.c0
      obtain rfl := hx (by omega)
      have hc := (HT2.out.b.pl p hp).2.2
      rw [← pAt_lt hp] at hc
      have hpc : (p : Int) < (u.nxt.length : Int) := by omega
      clear hf hx
      go_wp2_with fail
      go_ret2
      exact ⟨by rw [HV.out.1, HV.out.2]; rfl, HZ.out⟩
  | none =>
    have HV : Hid (valS u k = 0 ∧ (fnd u k (hk k)).isSome = false) := Lib.hid (by unfold valS; rw [hf]; exact ⟨rfl, rfl⟩)
    have HFi2 : Hid (Calls Tryz.prog 70 #[.pointer (some ⟨T, 0, none⟩), .string k, .int .u64 (hk k : Nat)] w1 fun e w' => e = .returned (.tuple #[.pointer none, .int .i64 (0 : Nat)]) ∧ Below w1.heap.size w1 w') := Lib.hid (by have h := HFi.out; rw [hf] at h; exact h)
    refine HFi2.out.mono ?_; rintro en w2 ⟨rfl, hb2⟩
    have HZ : Hid (Moved T G1 G2 s w u w2) := Lib.hid (HM1.out ⟨A, B, HT1.out.below hb2, Fr.of_below hb2, fun i hi => .inl hi⟩)
    clear hb2 HFi HFi2 HM1 HT1 hf
    go_wp2_with fail
    go_ret2
    exact ⟨by rw [HV.out.1, HV.out.2]; rfl, HZ.out⟩
end Go.Proofs.YtmjlhmohglbecaaGreatDoor.Ta
