/- Package table: Step. Conditions: what is always so of a table. -/
import Derived.Test.YtpbblijnfigapaaTa6
import Derived.Test.YtpbblijnfigapaaWq
import Derived.BigQuiet
import Derived.Test.YtpbblijnfigapaaWs
import Derived.Deep.DeepCutAuto
import Derived.Deep.Upon
namespace Go.Proofs.Ytpbblijnfigapaa.Ta
open Go.ChangeShapes Go.WideShapes Go.ChangeAt Go.RowKit
/-- The blocks of a table. -/
def own (T G1 G2 : Nat) (s : St) (i : Nat) : Prop := i = T ∨ i = G1 ∨ (0 < s.nxt.length ∧ i = G2)
def mvN : Nat → St → St
  | 0, s => s
  | j + 1, s => mv1 (mvN j s)
theorem quietD {P : Program} {f : FuncId} {args : Array Value} {F : Nat → World} {x : Nat} {v : Value} (h : Calls P f args (F x) fun e w' => e = .returned v ∧ F x = w') : Calls P f args (F x) fun e w' => e = .returned v ∧ ∃ y, w' = F y :=
  h.mono fun _ _ ⟨he, hb⟩ => ⟨he, x, hb.symm⟩
theorem Fr.drewN {S : Nat → Prop} (w : World) (n : Nat) : Fr S w (w.drewN n) := ⟨rfl, rfl, rfl, Nat.le_refl _, fun _ _ _ => rfl⟩
theorem drewN_below (w : World) (n : Nat) : Below w.heap.size w (w.drewN n) := below_drewN (Below.refl _ _) n
/-- What moving one place leaves, where it is an entry. -/
theorem mv_full {w w1 w2 w3 : World} {T G1 G2 : Nat} {u : St} (h : TAt w T G1 G2 u) (hn : 0 < u.nxt.length) (hf : ((pAt u.now u.mv).i == 1) = true) (p1 : PAt w1 T 0 G1 (u.now.set u.mv gravePl) (u.e1 - 1) (u.d1 + 1)) (k1 : Ch T 0 G1 w w1) (hb : Below w1.heap.size w1 w2)
    (p3 : PAt w3 T 3 G2 (u.nxt.set (addI u.nxt (hk (pAt u.now u.mv).k)) ⟨1, (pAt u.now u.mv).k, (pAt u.now u.mv).n⟩) (u.e2 + 1) (addD u.nxt (addI u.nxt (hk (pAt u.now u.mv).k)) u.d2)) (k3 : Ch T 3 G2 w2 w3) :
    w3.cell? ⟨T, 6, none⟩ = some (.int .i64 u.mv) ∧ w3.frozen? ⟨T, 6, none⟩ = false ∧ TAt (w3.setCell ⟨T, 6, none⟩ (.int .i64 ((u.mv : Int) + 1))) T G1 G2 (mv1 u) ∧ Fr (own T G1 G2 u) w (w3.setCell ⟨T, 6, none⟩ (.int .i64 ((u.mv : Int) + 1))) := by
  have hg := h.g hn
  have k2 : Ch T 3 G2 w1 w2 := Ch.of_below p1.lt hb
  have c6 : w3.cell? ⟨T, 6, none⟩ = some (.int .i64 u.mv) := (k3.ot 6 (by omega)).trans ((hb.cell (p := ⟨T, 6, none⟩) p1.lt).trans ((k1.ot 6 (by omega)).trans h.m))
  have fr0 : ∀ i, (w3.setCell ⟨T, 6, none⟩ (.int .i64 ((u.mv : Int) + 1))).frozen? ⟨T, i, none⟩ = w3.frozen? ⟨T, i, none⟩ := fun i => World.frozen?_setCell ..
  have ce0 : ∀ i, i ≠ 6 → (w3.setCell ⟨T, 6, none⟩ (.int .i64 ((u.mv : Int) + 1))).cell? ⟨T, i, none⟩ = w3.cell? ⟨T, i, none⟩ := fun i hi => World.cell?_setCell_other _ _ _ _ (addr_ne (.inr (fun e => hi e.symm)))
  have hs : Fr (fun i => i = T) w3 (w3.setCell ⟨T, 6, none⟩ (.int .i64 ((u.mv : Int) + 1))) := Fr.setCell (S := fun i => i = T) w3 ⟨T, 6, none⟩ rfl _
  have a3 := (p1.below hb).ch k3 (.inl (Nat.le_refl _)) (fun _ => hg)
  have e : mv1 u = { now := u.now.set u.mv gravePl, e1 := u.e1 - 1, d1 := u.d1 + 1, nxt := u.nxt.set (addI u.nxt (hk (pAt u.now u.mv).k)) ⟨1, (pAt u.now u.mv).k, (pAt u.now u.mv).n⟩, e2 := u.e2 + 1, d2 := addD u.nxt (addI u.nxt (hk (pAt u.now u.mv).k)) u.d2, mv := u.mv + 1 } := by unfold mv1; rw [if_pos hf]
  rw [e]
  refine ⟨c6, p3.ft 6, ⟨a3.keep (fun i hi => ce0 _ (by omega)) fr0 (fun hl => hs.block G1 (a3.ltG hl) (a3.ne hl)), p3.keep (fun i hi => ce0 _ (by omega)) fr0 (fun hl => hs.block G2 (p3.ltG hl) (p3.ne hl)), World.cell?_setCell_same w3 _ _ c6, fun _ => hg⟩, ?_⟩
  refine (((k1.fr.mono ?_).trans (k2.fr.mono ?_)).trans (k3.fr.mono ?_)).trans (hs.mono ?_)
  · rintro i (e | e)
    · exact .inl e
    · exact .inr (.inl e)
  · rintro i (e | e)
    · exact .inl e
    · exact .inr (.inr ⟨hn, e⟩)
  · rintro i (e | e)
    · exact .inl e
    · exact .inr (.inr ⟨hn, e⟩)
  · intro i e; exact .inl e
/-- What moving one place leaves, where it is no entry. -/
theorem mv_none {w w3 : World} {T G1 G2 : Nat} {u : St} (h : TAt w T G1 G2 u) (hf : ((pAt u.now u.mv).i == 1) = false) (hb : Below w.heap.size w w3) :
    w3.cell? ⟨T, 6, none⟩ = some (.int .i64 u.mv) ∧ w3.frozen? ⟨T, 6, none⟩ = false ∧ TAt (w3.setCell ⟨T, 6, none⟩ (.int .i64 ((u.mv : Int) + 1))) T G1 G2 (mv1 u) ∧ Fr (own T G1 G2 u) w (w3.setCell ⟨T, 6, none⟩ (.int .i64 ((u.mv : Int) + 1))) := by
  have h3 := h.below hb
  have fr0 : ∀ i, (w3.setCell ⟨T, 6, none⟩ (.int .i64 ((u.mv : Int) + 1))).frozen? ⟨T, i, none⟩ = w3.frozen? ⟨T, i, none⟩ := fun i => World.frozen?_setCell ..
  have ce0 : ∀ i, i ≠ 6 → (w3.setCell ⟨T, 6, none⟩ (.int .i64 ((u.mv : Int) + 1))).cell? ⟨T, i, none⟩ = w3.cell? ⟨T, i, none⟩ := fun i hi => World.cell?_setCell_other _ _ _ _ (addr_ne (.inr (fun e => hi e.symm)))
  have hs : Fr (fun i => i = T) w3 (w3.setCell ⟨T, 6, none⟩ (.int .i64 ((u.mv : Int) + 1))) := Fr.setCell (S := fun i => i = T) w3 ⟨T, 6, none⟩ rfl _
  have e : mv1 u = { u with mv := u.mv + 1 } := by unfold mv1; rw [if_neg (by rw [hf]; decide)]
  rw [e]
  exact ⟨h3.m, h3.a.ft 6, ⟨h3.a.keep (fun i hi => ce0 _ (by omega)) fr0 (fun hl => hs.block G1 (h3.a.ltG hl) (h3.a.ne hl)), h3.b.keep (fun i hi => ce0 _ (by omega)) fr0 (fun hl => hs.block G2 (h3.b.ltG hl) (h3.b.ne hl)), World.cell?_setCell_same w3 _ _ h3.m, h3.g⟩, (Fr.of_below hb).trans (hs.mono fun i e => .inl e)⟩
theorem below_setCells (g : Nat) : ∀ (vs : List Value) (o : Nat) (w : World), Below g w (w.setCells g o vs)
  | [], _, w => Below.refl _ _
  | v :: r, o, w => by
    rw [World.setCells]
    exact (Below.setCell (p := ⟨g, o, none⟩) (Below.refl g w) (Nat.le_refl _) v).trans (below_setCells g r (o + 1) _)
theorem fr_setCells (w : World) (g o : Nat) (vs : List Value) : Fr (fun i => i = g) w (w.setCells g o vs) :=
  have h := below_setCells g vs o w
  ⟨h.os, h.tape, h.output, h.size, fun _ hi hne => World.heap_setCells_other w g o vs hi hne⟩
/-- A table in the place of another. -/
theorem setT_done {W : World} {T G1 G2 G : Nat} {u : St} (h : TAt W T G1 G2 u) {l : List Pl} {e d : Int} (pl : ∀ j (hj : j < l.length), W.cell? ⟨G, j * 3, none⟩ = some (.int .i64 l[j].i) ∧ W.cell? ⟨G, j * 3 + 1, none⟩ = some (.string l[j].k) ∧ W.cell? ⟨G, j * 3 + 2, none⟩ = some (.int .i64 l[j].n))
    (fg : ∀ i, W.frozen? ⟨G, i, none⟩ = false) (ne : G ≠ T) :
    TAt (W.setCells T 0 [.slice (some ⟨G, 0, none⟩) l.length l.length, .int .i64 e, .int .i64 d, .slice none 0 0, .int .i64 0, .int .i64 0, .int .i64 0]) T G G ⟨l, e, d, [], 0, 0, 0⟩ ∧
      Fr (fun i => i = T) W (W.setCells T 0 [.slice (some ⟨G, 0, none⟩) l.length l.length, .int .i64 e, .int .i64 d, .slice none 0 0, .int .i64 0, .int .i64 0, .int .i64 0]) := by
  obtain ⟨x0, c0, -⟩ := h.a.c0
  obtain ⟨x3, c3, -⟩ := h.b.c0
  have c1 := h.a.c1
  have c2 := h.a.c2
  have c4 := h.b.c1
  have c5 := h.b.c2
  have c6 := h.m
  have hs : ∀ i, i < 7 → (W.cell? ⟨T, 0 + i, none⟩).isSome = true := fun i hi => by
    rw [Nat.zero_add]
    have : i = 0 ∨ i = 1 ∨ i = 2 ∨ i = 3 ∨ i = 4 ∨ i = 5 ∨ i = 6 := by omega
    rcases this with rfl | rfl | rfl | rfl | rfl | rfl | rfl
    · rw [c0]; rfl
    · rw [c1]; rfl
    · rw [c2]; rfl
    · rw [c3]; rfl
    · rw [c4]; rfl
    · rw [c5]; rfl
    · rw [c6]; rfl
  generalize hvs : [Value.slice (some ⟨G, 0, none⟩) l.length l.length, .int .i64 e, .int .i64 d, .slice none 0 0, .int .i64 0, .int .i64 0, .int .i64 0] = vs
  have hlen : vs.length = 7 := by rw [← hvs]; rfl
  have hin := World.cell?_setCells_in T vs 0 W (fun j hj => hs j (by omega))
  have hout : ∀ b i, b ≠ T → (W.setCells T 0 vs).cell? ⟨b, i, none⟩ = W.cell? ⟨b, i, none⟩ := fun b i hb => by
    have := World.cell?_setCells_out T vs 0 W ⟨b, i, none⟩ (fun hb' _ => absurd hb' hb)
    exact this
  have hfz : ∀ a, (W.setCells T 0 vs).frozen? a = W.frozen? a := fun a => World.frozen?_setCells ..
  have hfr : Fr (fun i => i = T) W (W.setCells T 0 vs) := fr_setCells W T 0 vs
  subst hvs
  have k0 := hin 0 (by show (0 : Nat) < 7; decide)
  have k1 := hin 1 (by show (1 : Nat) < 7; decide)
  have k2 := hin 2 (by show (2 : Nat) < 7; decide)
  have k3 := hin 3 (by show (3 : Nat) < 7; decide)
  have k4 := hin 4 (by show (4 : Nat) < 7; decide)
  have k5 := hin 5 (by show (5 : Nat) < 7; decide)
  have k6 := hin 6 (by show (6 : Nat) < 7; decide)
  exact ⟨⟨⟨⟨_, k0, fun _ => rfl⟩, k1, k2, fun i => (hfz _).trans (h.a.ft i), fun j hj => by rw [hout _ _ ne, hout _ _ ne, hout _ _ ne]; exact pl j hj, fun _ i => (hfz _).trans (fg i), fun _ => ne⟩,
    ⟨⟨_, k3, fun hn => absurd hn (Nat.lt_irrefl _)⟩, k4, k5, fun i => (hfz _).trans (h.a.ft i), fun j hj => absurd hj (Nat.not_lt_zero _), fun hn => absurd hn (Nat.lt_irrefl _), fun hn => absurd hn (Nat.lt_irrefl _)⟩, k6, fun hn => absurd hn (Nat.lt_irrefl _)⟩, hfr⟩
/-- What bury leaves at W, which is W1 or has new blocks besides. -/
structure BurR (W1 W w' : World) (T G1 : Nat) (u : St) : Prop where
  p : PAt w' T 0 G1 (u.now.set u.mv gravePl) (u.e1 - 1) (u.d1 + 1)
  k : Ch T 0 G1 W1 w'
  n : ∀ b, W1.heap.size ≤ b → b < W.heap.size → w'.heap[b]? = W.heap[b]?
theorem buried {W1 : World} {T G1 G2 : Nat} {u : St} (h : TAt W1 T G1 G2 u) (hlt : u.mv < u.now.length) (hb1 : u.now.length ≤ 4096) (hr : 0 ≤ u.e1 ∧ 0 ≤ u.d1 ∧ u.e1 + u.d1 ≤ u.now.length) (W : World) (hb : Below W1.heap.size W1 W) :
    Calls Try.prog 22 #[.pointer (some ⟨T, 0, none⟩), .int .i64 (u.mv : Nat)] W fun en w' => ∃ v, en = .returned v ∧ v = .agg #[.int .i64 (pAt u.now u.mv).i, .string (pAt u.now u.mv).k, .int .i64 (pAt u.now u.mv).n] ∧ BurR W1 W w' T G1 u := by
  refine (bury_calls W T 0 G1 u.now u.e1 u.d1 (h.a.below hb) u.mv hlt (by omega) (by omega) (by omega)).mono ?_
  rintro en w' ⟨rfl, hp, hk⟩
  refine ⟨_, rfl, rfl, hp, (Ch.of_below h.a.lt hb).trans hk, fun b h1 h2 => hk.fr.block b h2 ?_⟩
  have := h.a.lt
  have := h.a.ltG (by omega)
  rintro (e | e) <;> omega
theorem BurR.keeps {W1 W w' : World} {T G1 : Nat} {u : St} (h : BurR W1 W w' T G1 u) (hl : 0 < u.now.length) (c6 : W1.cell? ⟨T, 6, none⟩ = some (.int .i64 u.mv)) :
    (fun w' : World => w'.cell? ⟨T, 0, none⟩ = some (.slice (some ⟨G1, 0, none⟩) u.now.length u.now.length) ∧ w'.cell? ⟨T, 6, none⟩ = some (.int .i64 u.mv)) w' := by
  refine ⟨?_, (h.k.ot 6 (by omega)).trans c6⟩
  obtain ⟨a, h0, ha⟩ := h.p.c0
  rw [List.length_set] at h0 ha
  rw [ha hl] at h0
  exact h0
theorem BurR.keeps2 {W1 W w' : World} {T G1 : Nat} {u : St} (h : BurR W1 W w' T G1 u) (hl : 0 < u.now.length) (c6 : W1.cell? ⟨T, 6, none⟩ = some (.int .i64 u.mv)) (o : Obj) :
    (fun w' : World => w'.cell? ⟨T, 0, none⟩ = some (.slice (some ⟨G1, 0, none⟩) u.now.length u.now.length) ∧ w'.cell? ⟨T, 6, none⟩ = some (.int .i64 u.mv)) (w'.alloc o) := by
  have hb := bbox (w := w') o
  obtain ⟨k0, k6⟩ := h.keeps hl c6
  exact ⟨(hb.cell (p := ⟨T, 0, none⟩) h.p.lt).trans k0, (hb.cell (p := ⟨T, 6, none⟩) h.p.lt).trans k6⟩
theorem BurR.keeps4 {W1 W w' : World} {T G1 : Nat} {u : St} (h : BurR W1 W w' T G1 u) (hT : T < W1.heap.size) (hl : 0 < u.now.length) (c6 : W1.cell? ⟨T, 6, none⟩ = some (.int .i64 u.mv)) (x y z : Value) :
    (fun w' : World => w'.cell? ⟨T, 0, none⟩ = some (.slice (some ⟨G1, 0, none⟩) u.now.length u.now.length) ∧ w'.cell? ⟨T, 6, none⟩ = some (.int .i64 u.mv)) (((w'.setCell ⟨W1.heap.size, 0, none⟩ x).setCell ⟨W1.heap.size, 1, none⟩ y).setCell ⟨W1.heap.size, 2, none⟩ z) := by
  obtain ⟨k0, k6⟩ := h.keeps hl c6
  have e : ∀ i (W : World) v j, (W.setCell ⟨W1.heap.size, j, none⟩ v).cell? ⟨T, i, none⟩ = W.cell? ⟨T, i, none⟩ := fun i W v j => World.cell?_setCell_other _ _ _ _ (addr_ne (.inl (by omega)))
  exact ⟨by rw [e, e, e]; exact k0, by rw [e, e, e]; exact k6⟩
theorem BurR.cells {W1 w' : World} {T G1 : Nat} {u : St} (h : BurR W1 (W1.alloc (.cells #[.int .i64 0, .string ⟨#[]⟩, .int .i64 0] 55)).drew w' T G1 u) :
    w'.cell? ⟨W1.heap.size, 0, none⟩ = some (.int .i64 0) ∧ w'.cell? ⟨W1.heap.size, 1, none⟩ = some (.string ⟨#[]⟩) ∧ w'.cell? ⟨W1.heap.size, 2, none⟩ = some (.int .i64 0) ∧ w'.frozen? ⟨W1.heap.size, 0, none⟩ = false ∧ w'.frozen? ⟨W1.heap.size, 1, none⟩ = false ∧ w'.frozen? ⟨W1.heap.size, 2, none⟩ = false := by
  have e := h.n W1.heap.size (Nat.le_refl _) (by simp)
  have e2 : (W1.alloc (.cells #[.int .i64 0, .string ⟨#[]⟩, .int .i64 0] 55)).drew.heap[W1.heap.size]? = some (.cells #[.int .i64 0, .string ⟨#[]⟩, .int .i64 0] 55) := heap_alloc_new W1 _
  rw [e2] at e
  simp only [World.cell?, World.frozen?, e]
  simp
/-- .. and the entry in a block of its own. -/
structure Buried (W1 wc : World) (T G1 : Nat) (u : St) (b : Nat) : Prop where
  p : PAt wc T 0 G1 (u.now.set u.mv gravePl) (u.e1 - 1) (u.d1 + 1)
  k : Ch T 0 G1 W1 wc
  lo : W1.heap.size ≤ b
  b1 : wc.cell? ⟨b, 1, none⟩ = some (.string (pAt u.now u.mv).k)
  b2 : wc.cell? ⟨b, 2, none⟩ = some (.int .i64 (pAt u.now u.mv).n)
theorem BurR.done1 {W1 W w' : World} {T G1 : Nat} {u : St} (h : BurR W1 W w' T G1 u) (t : TypeId) : Buried W1 (w'.alloc (.cells #[.int .i64 (pAt u.now u.mv).i, .string (pAt u.now u.mv).k, .int .i64 (pAt u.now u.mv).n] t)) T G1 u w'.heap.size := by
  have hb := bbox (w := w') (.cells #[.int .i64 (pAt u.now u.mv).i, .string (pAt u.now u.mv).k, .int .i64 (pAt u.now u.mv).n] t)
  exact ⟨h.p.below hb, h.k.trans (Ch.of_below h.p.lt hb), h.k.fr.size, by rw [World.cell?_alloc_new]; rfl, by rw [World.cell?_alloc_new]; rfl⟩
theorem BurR.done2 {W1 W w' : World} {T G1 : Nat} {u : St} (h : BurR W1 W w' T G1 u) (hT : T < W1.heap.size) (hG : G1 < W1.heap.size) (c0 : ∃ x, w'.cell? ⟨W1.heap.size, 0, none⟩ = some x) (c1 : ∃ x, w'.cell? ⟨W1.heap.size, 1, none⟩ = some x) (c2 : ∃ x, w'.cell? ⟨W1.heap.size, 2, none⟩ = some x) :
    Buried W1 (((w'.setCell ⟨W1.heap.size, 0, none⟩ (.int .i64 (pAt u.now u.mv).i)).setCell ⟨W1.heap.size, 1, none⟩ (.string (pAt u.now u.mv).k)).setCell ⟨W1.heap.size, 2, none⟩ (.int .i64 (pAt u.now u.mv).n)) T G1 u W1.heap.size := by
  obtain ⟨x0, c0⟩ := c0
  obtain ⟨x1, c1⟩ := c1
  obtain ⟨x2, c2⟩ := c2
  have hs := ((Fr.setCell (S := fun i => i = W1.heap.size) w' ⟨W1.heap.size, 0, none⟩ rfl (.int .i64 (pAt u.now u.mv).i)).trans (Fr.setCell (S := fun i => i = W1.heap.size) _ ⟨W1.heap.size, 1, none⟩ rfl (.string (pAt u.now u.mv).k))).trans (Fr.setCell (S := fun i => i = W1.heap.size) _ ⟨W1.heap.size, 2, none⟩ rfl (.int .i64 (pAt u.now u.mv).n))
  have d1 := World.cell?_setCell_same (w'.setCell ⟨W1.heap.size, 0, none⟩ (.int .i64 (pAt u.now u.mv).i)) ⟨W1.heap.size, 1, none⟩ (.string (pAt u.now u.mv).k) ((World.cell?_setCell_other _ _ _ _ (addr_ne (.inr (by decide)))).trans c1)
  have d2 := World.cell?_setCell_same ((w'.setCell ⟨W1.heap.size, 0, none⟩ (.int .i64 (pAt u.now u.mv).i)).setCell ⟨W1.heap.size, 1, none⟩ (.string (pAt u.now u.mv).k)) ⟨W1.heap.size, 2, none⟩ (.int .i64 (pAt u.now u.mv).n) ((World.cell?_setCell_other _ _ _ _ (addr_ne (.inr (by decide)))).trans ((World.cell?_setCell_other _ _ _ _ (addr_ne (.inr (by decide)))).trans c2))
  have d1' := (World.cell?_setCell_other ((w'.setCell ⟨W1.heap.size, 0, none⟩ (.int .i64 (pAt u.now u.mv).i)).setCell ⟨W1.heap.size, 1, none⟩ (.string (pAt u.now u.mv).k)) ⟨W1.heap.size, 2, none⟩ ⟨W1.heap.size, 1, none⟩ (.int .i64 (pAt u.now u.mv).n) (addr_ne (.inr (by decide)))).trans d1
  have fz : ∀ a, (((w'.setCell ⟨W1.heap.size, 0, none⟩ (.int .i64 (pAt u.now u.mv).i)).setCell ⟨W1.heap.size, 1, none⟩ (.string (pAt u.now u.mv).k)).setCell ⟨W1.heap.size, 2, none⟩ (.int .i64 (pAt u.now u.mv).n)).frozen? a = w'.frozen? a := fun a => by rw [World.frozen?_setCell, World.frozen?_setCell, World.frozen?_setCell]
  generalize (((w'.setCell ⟨W1.heap.size, 0, none⟩ (.int .i64 (pAt u.now u.mv).i)).setCell ⟨W1.heap.size, 1, none⟩ (.string (pAt u.now u.mv).k)).setCell ⟨W1.heap.size, 2, none⟩ (.int .i64 (pAt u.now u.mv).n)) = W3 at *
  have hTb := hs.block T h.p.lt (by omega)
  have ct : ∀ i, W3.cell? ⟨T, i, none⟩ = w'.cell? ⟨T, i, none⟩ := fun i => by simp only [World.cell?, hTb]
  exact ⟨h.p.keep (fun i _ => ct _) (fun i => fz _) (fun hl => hs.block G1 (h.p.ltG hl) (by omega)), ⟨⟨hs.os.trans h.k.fr.os, hs.tape.trans h.k.fr.tape, hs.output.trans h.k.fr.output, Nat.le_trans h.k.fr.size hs.size, fun i hi hn => (hs.block i (Nat.lt_of_lt_of_le hi h.k.fr.size) (by omega)).trans (h.k.fr.block i hi hn)⟩, fun i hi => (ct i).trans (h.k.ot i hi), fun a ha => (fz a).trans (h.k.fz a ha)⟩, Nat.le_refl _, d1', d2⟩
end Go.Proofs.Ytpbblijnfigapaa.Ta
