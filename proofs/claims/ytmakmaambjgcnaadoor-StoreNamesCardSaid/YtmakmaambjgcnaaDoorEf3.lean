/- Package expiry: first: the first ones that have ended, in order. Conditions: the heap as it lies; bounds. -/
import Derived.Test.YtmakmaambjgcnaaDoorEf2
import Derived.Test.YtmakmaambjgcnaaDoorEr1
namespace Go.Proofs.YtmakmaambjgcnaaDoor.Ea
open Go.ChangeShapes Go.WideShapes Go.ChangeAt Go.RowKit
def ownT (t : Nat) (vp : Value) (y : Nat) : Prop := y = t ∨ vp.ownBlock = some y
theorem TAt.keepF {w0 w w' : World} {t : Nat} {vh vp : Value} {l : List En} {ps : List Nat} {O : Nat → Prop} (h : TAt w0 t vh l w vp ps) (hf : Fr O w w') (h1 : ¬ O t) (h2 : ∀ g, vp.ownBlock = some g → ¬ O g) (h3 : ∀ x, x < w0.heap.size → ¬ O x) : TAt w0 t vh l w' vp ps := by
  have hT := hf.block t h.lt h1
  exact ⟨h.bel.trans (hf.below h.bel.size h3), h.tb, (World.cell?_of_block (a := ⟨t, 0, none⟩) hT).trans h.c0, (World.cell?_of_block (a := ⟨t, 1, none⟩) hT).trans h.c1, fun j => (World.frozen?_of_block (a := ⟨t, j, none⟩) hT).trans (h.ft j), row_block h.row fun g hg => hf.block g (row_lt h.row hg) (h2 g hg), h.pt, h.bd⟩
/-- The row of what has been found, beside turns. -/
structure RI (w0 : World) (t : Nat) (vp : Value) (wr : World) (v : Value) (out : List Du) : Prop where
  row : wr.ownsRow w0.heap.size 91 2 v out.length (cellsD out)
  vt : v.ownBlock ≠ some t
  vv : ∀ g, v.ownBlock = some g → vp.ownBlock ≠ some g
/-- What a call on turns leaves. -/
theorem RI.turns {w0 wr w' : World} {t : Nat} {vh vp v : Value} {l : List En} {ps' : List Nat} {out : List Du} (h : RI w0 t vp wr v out) (hq : TQ w0 t vh l (ownT t vp) wr ps' w') : ∃ vp', TAt w0 t vh l w' vp' ps' ∧ RI w0 t vp' w' v out := by
  obtain ⟨vp', h1, hf, ho⟩ := hq
  have hn : ∀ g, v.ownBlock = some g → ¬ ownT t vp g := fun g hg e => by
    rcases e with e | e
    · exact h.vt (by rw [hg, e])
    · exact h.vv g hg e
  refine ⟨vp', h1, row_block h.row fun g hg => hf.block g (row_lt h.row hg) (hn g hg), h.vt, fun g hg e => ?_⟩
  rcases ho g (.inr e) with e2 | e2
  · exact hn g hg e2
  · have := row_lt h.row hg
    omega
theorem TAt.tq {w0 w : World} {t : Nat} {vh vp : Value} {l : List En} {ps : List Nat} (h : TAt w0 t vh l w vp ps) : TQ w0 t vh l (ownT t vp) w ps w := ⟨vp, h, Fr.refl _ _, fun _ hx => .inl hx⟩
/-- What one more found leaves. -/
theorem RI.more {w0 w w' : World} {t : Nat} {vh vp v v' : Value} {l : List En} {ps : List Nat} {out : List Du} {m : Du} {Te : TypeId} (h : RI w0 t vp w v out) (ht : TAt w0 t vh l w vp ps) (h1 : w'.ownsRow w0.heap.size 91 2 v' (out.length + 1) (cellsD (out ++ [m]))) (h2 : (w.alloc (.cells #[.int .i64 m.1, .string m.2] Te)).grownBy w' v.ownBlock) (h3 : v'.ownBlock = v.ownBlock ∨ v'.ownBlock = some (w.heap.size + 1)) :
    TAt w0 t vh l w' vp ps ∧ RI w0 t vp w' v' (out ++ [m]) := by
  have hf : Fr (fun y => v.ownBlock = some y) w w' := (Fr.of_below (bbox _)).trans (Fr.grown h2 fun _ hi => hi)
  refine ⟨ht.keepF hf h.vt (fun g hg e => h.vv g e hg) fun x hx e => ?_, ?_, ?_, fun g hg e => ?_⟩
  · have := (h.row.lt x e).1
    omega
  · rw [List.length_append]; exact h1
  · rcases h3 with e | e
    · rw [e]; exact h.vt
    · rw [e]
      have := ht.lt
      exact fun e2 => by have e3 : w.heap.size + 1 = t := Option.some.inj e2; omega
  · rcases h3 with e1 | e1
    · exact h.vv g (e1 ▸ hg) e
    · rw [e1] at hg
      have := row_lt ht.row e
      have e3 : w.heap.size + 1 = g := Option.some.inj hg
      omega
/-- What the loop keeps. -/
structure LI (w0 : World) (t : Nat) (vh : Value) (l : List En) (now : Int) (most : Nat) (wr : World) (v vp : Value) (ps tk : List Nat) : Prop where
  ta : TAt w0 t vh l wr vp ps
  hp : Hp (leB (ltT l)) ps ps.length
  fro : Fro l tk ps
  ri : RI w0 t vp wr v (tk.map (ent l))
  nw : ∀ o ∈ tk, (ent l o).1 ≤ now
  ms : tk.length ≤ most
theorem nd_le : ∀ {l r : List Nat}, l.Nodup → (∀ x ∈ l, x ∈ r) → l.length ≤ r.length
  | [], _, _, _ => Nat.zero_le _
  | x :: l, r, hn, hs => by
    obtain ⟨h1, h2⟩ := List.nodup_cons.1 hn
    have hx := hs x (List.mem_cons_self ..)
    have h3 := nd_le (r := r.erase x) h2 (fun y hy => (List.mem_erase_of_ne (fun (e : y = x) => h1 (by rw [← e]; exact hy))).2 (hs y (List.mem_cons_of_mem _ hy)))
    rw [List.length_erase_of_mem hx] at h3
    have := List.length_pos_of_mem hx
    rw [List.length_cons]
    omega
theorem Fro.len {l : List En} {tk fr : List Nat} (h : Fro l tk fr) : tk.length + fr.length ≤ l.length := by
  have h1 := nd_le h.nd (r := List.range l.length) fun p hp => List.mem_range.2 (h.lt p hp)
  rw [List.length_append, List.length_range] at h1
  exact h1
theorem LI.done {w0 : World} {t : Nat} {vh : Value} {l : List En} {now : Int} {most : Nat} {wr : World} {v vp : Value} {ps tk : List Nat} (h : LI w0 t vh l now most wr v vp ps tk) (hb : Below w0.heap.size w0 wr) {S : List Du} (hd : dueD now most S = tk.map (ent l)) : RowD w0 wr v (dueD now most S) := by
  rw [hd]
  exact ⟨h.ri.row, hb⟩
/-- None is left. -/
theorem LI.none {w0 : World} {t : Nat} {vh : Value} {l : List En} {now : Int} {most : Nat} {wr : World} {v vp : Value} {tk : List Nat} (h : LI w0 t vh l now most wr v vp [] tk) (hH : Hp (leB ltN) l l.length) {S : List Du} (hS : UpD S) (hp : List.Perm (l.map En.d) S) : dueD now most S = tk.map (ent l) := by
  obtain ⟨rest, e, hr⟩ := h.fro.out hS hp
  refine due_of e (fun o ho => ?_) (.inr ⟨by rw [List.length_map]; exact h.ms, fun r hr' => ?_⟩)
  · obtain ⟨p, hp', rfl⟩ := List.mem_map.1 ho
    exact h.nw p hp'
  · obtain ⟨q, hq, hn, -⟩ := hr r hr'
    obtain ⟨a, ha, -⟩ := h.fro.anc hH q hq hn
    cases ha
/-- There are as many as were asked for. -/
theorem LI.full {w0 : World} {t : Nat} {vh : Value} {l : List En} {now : Int} {most : Nat} {wr : World} {v vp : Value} {ps tk : List Nat} (h : LI w0 t vh l now most wr v vp ps tk) (hm : ¬ tk.length < most) {S : List Du} (hS : UpD S) (hp : List.Perm (l.map En.d) S) : dueD now most S = tk.map (ent l) := by
  obtain ⟨rest, e, hr⟩ := h.fro.out hS hp
  refine due_of e (fun o ho => ?_) (.inl (by rw [List.length_map]; have := h.ms; omega))
  obtain ⟨p, hp', rfl⟩ := List.mem_map.1 ho
  exact h.nw p hp'
/-- The next one ends later. -/
theorem LI.late {w0 : World} {t : Nat} {vh : Value} {l : List En} {now : Int} {most : Nat} {wr : World} {v vp : Value} {ps tk : List Nat} (h : LI w0 t vh l now most wr v vp ps tk) (hH : Hp (leB ltN) l l.length) (hk : (l.map (·.k)).Nodup) {p : Nat} (hpf : p ∈ ps) (hm : ∀ q ∈ ps, ltE (ent l q) (ent l p) = false) (hl : now < (ent l p).1) {S : List Du} (hS : UpD S) (hp : List.Perm (l.map En.d) S) : dueD now most S = tk.map (ent l) := by
  obtain ⟨rest, e, hr⟩ := h.fro.out hS hp
  refine due_of e (fun o ho => ?_) (.inr ⟨by rw [List.length_map]; exact h.ms, fun r hr' => ?_⟩)
  · obtain ⟨p, hp', rfl⟩ := List.mem_map.1 ho
    exact h.nw p hp'
  · obtain ⟨q, hq, hn, rfl⟩ := hr r hr'
    by_cases e : q = p
    · subst e; exact hl
    · rcases ltE_iff.1 (h.fro.least hH hk hpf hm q hq hn e) with h1 | h1 <;> omega
theorem heap_min {lt : Nat → Nat → Bool} {ps : List Nat} {n : Nat} (h : Hp (leB lt) ps (n + 1)) (o : Ord (leB lt)) (hl : ps.length = n + 1) : ∀ q ∈ ps, lt q (ps[0]'(by omega)) = false := fun q hq => by
  obtain ⟨i, hi, rfl⟩ := List.mem_iff_getElem.1 hq
  exact h.first o (by omega) i (by omega) _ _ (List.getElem?_eq_getElem (by omega)) (List.getElem?_eq_getElem hi)
theorem kids_eq (n p : Nat) : kidsOf n p = (if 2 * p + 1 < n then [2 * p + 1] else []) ++ (if 2 * p + 2 < n then [2 * p + 2] else []) := by
  unfold kidsOf
  rw [List.filter_cons, List.filter_cons]
  by_cases h1 : 2 * p + 1 < n
  · by_cases h2 : 2 * p + 2 < n <;> simp [h1, h2]
  · have h2 : ¬ 2 * p + 2 < n := by omega
    simp [h1, h2]
end Go.Proofs.YtmakmaambjgcnaaDoor.Ea
