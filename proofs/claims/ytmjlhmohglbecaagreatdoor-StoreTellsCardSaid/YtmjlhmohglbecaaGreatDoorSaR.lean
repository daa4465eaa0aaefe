/- Layer 12, the checking package's Store, plain: cells as they lie, and what each step makes of them. No program, no condition. -/
import Derived.Test.YtmjlhmohglbecaaGreatDoorSaD
namespace Go.Proofs.YtmjlhmohglbecaaGreatDoor.Sa
set_option linter.unusedVariables false
set_option linter.unusedSimpArgs false
open Go.ChangeShapes Go.WideShapes Go.ChangeAt Go.RowKit
open Sp (Th Hp Stays All Ro roT rowT cellsT exT puT star)
open Ca (dropK touchK oldK inK)
open Ea (Du UpD dropD putD inD getD dueD insD)
/-- A cell: its key, its item, where the item's fields lie, and when it ends. -/
structure Cw where
  k : ByteArray
  i : Ia.It
  a : Option Addr
  c : Nat
  t : Int
def Cw.wt (p : Cw) (t : Int) : Cw := ⟨p.k, p.i, p.a, p.c, t⟩
def cells5 (p : Cw) : List Value := [.string p.k, .int .i64 p.i.k, .string p.i.t, .slice p.a p.i.l.length p.c, .int .i64 p.t]
def cellsC (P : List Cw) : List Value := P.flatMap cells5
theorem cellsC_len : ∀ (P : List Cw), (cellsC P).length = P.length * 5
  | [] => rfl
  | p :: P => by
    have := cellsC_len P
    show (cells5 p ++ cellsC P).length = _
    rw [List.length_append, this, List.length_cons]
    show 5 + _ = _
    omega
theorem cellsC_app (P Q : List Cw) : cellsC (P ++ Q) = cellsC P ++ cellsC Q := List.flatMap_append ..
theorem cellsC_at : ∀ (P : List Cw) (j : Nat) (hj : j < P.length) (r : Nat), r < 5 → (cellsC P)[j * 5 + r]? = (cells5 P[j])[r]?
  | [], j, hj, _, _ => absurd hj (Nat.not_lt_zero _)
  | p :: P, 0, _, r, hr => by
    show (cells5 p ++ cellsC P)[0 * 5 + r]? = (cells5 p)[r]?
    rw [Nat.zero_mul, Nat.zero_add, List.getElem?_append_left (by show r < 5; exact hr)]
  | p :: P, j + 1, hj, r, hr => by
    have := cellsC_at P j (by simpa using hj) r hr
    show (cells5 p ++ cellsC P)[(j + 1) * 5 + r]? = _
    rw [show (j + 1) * 5 + r = 5 + (j * 5 + r) by omega, List.getElem?_append_right (by show 5 ≤ _; omega)]
    show (cellsC P)[5 + (j * 5 + r) - 5]? = _
    rw [Nat.add_sub_cancel_left, this]
    rfl
theorem cellsC_set : ∀ (P : List Cw) (j : Nat) (hj : j < P.length) (t : Int), cellsC (P.set j (P[j].wt t)) = (cellsC P).set (j * 5 + 4) (.int .i64 t)
  | [], j, hj, _ => absurd hj (Nat.not_lt_zero _)
  | p :: P, 0, _, t => rfl
  | p :: P, j + 1, hj, t => by
    have := cellsC_set P j (by simpa using hj) t
    show cells5 p ++ cellsC (P.set j _) = (cells5 p ++ cellsC P).set ((j + 1) * 5 + 4) _
    rw [List.set_append_right _ _ (by show 5 ≤ _; omega)]
    show _ = cells5 p ++ (cellsC P).set ((j + 1) * 5 + 4 - 5) _
    rw [show (j + 1) * 5 + 4 - 5 = j * 5 + 4 by omega, ← this]
    rfl
theorem cellsC_take (P : List Cw) (n : Nat) : (cellsC P).take (n * 5) = cellsC (P.take n) := by
  have h : cellsC P = cellsC (P.take n) ++ cellsC (P.drop n) := by rw [← cellsC_app, List.take_append_drop]
  by_cases hn : n ≤ P.length
  · rw [h]
    have hl : (cellsC (P.take n)).length = n * 5 := by rw [cellsC_len, List.length_take, Nat.min_eq_left hn]
    rw [← hl]; exact List.take_left
  · rw [List.take_of_length_le (by rw [cellsC_len]; omega), List.take_of_length_le (by omega)]
theorem cellsC_drop (P : List Cw) (n : Nat) (hn : n ≤ P.length) (j : Nat) : (cellsC (P.drop n))[j]? = (cellsC P)[n * 5 + j]? := by
  have h : cellsC P = cellsC (P.take n) ++ cellsC (P.drop n) := by rw [← cellsC_app, List.take_append_drop]
  have hl : (cellsC (P.take n)).length = n * 5 := by rw [cellsC_len, List.length_take, Nat.min_eq_left hn]
  rw [h, List.getElem?_append_right (by omega), hl, Nat.add_sub_cancel_left]
theorem cells5_one (p : Cw) : ∀ u ∈ cells5 p, u.oneCell' = true := by
  intro u hu
  simp only [cells5, List.mem_cons, List.not_mem_nil, or_false] at hu
  rcases hu with rfl | rfl | rfl | rfl | rfl <;> rfl
theorem cellsC_one (P : List Cw) : ∀ u ∈ cellsC P, u.oneCell' = true := fun u hu => by
  obtain ⟨p, _, hp⟩ := List.mem_flatMap.1 hu
  exact cells5_one p u hp
/-- The fields of all cells, in blocks that no one writes. -/
def rowsC (P : List Cw) : Ro :=
  ⟨fun R w => ∀ p ∈ P, (itemR p.a p.c p.i).P R w, fun h hs hr hR hb p hp => (itemR p.a p.c p.i).keep (h p hp) hs hr hR hb⟩
/-- The cell of a key goes. -/
def dropC (k : ByteArray) (C : List Cw) : List Cw := C.filter fun p => !decide (p.k = k)
theorem dropC_keys (k : ByteArray) (C : List Cw) : (dropC k C).map (·.k) = dropK k (C.map (·.k)) := by
  unfold dropC dropK
  rw [List.filter_map]
  rfl
theorem mem_dropC {k : ByteArray} {C : List Cw} {p : Cw} : p ∈ dropC k C ↔ p ∈ C ∧ p.k ≠ k := by simp [dropC]
theorem dropC_none {k : ByteArray} {C : List Cw} (h : k ∉ C.map (·.k)) : dropC k C = C := List.filter_eq_self.2 fun p hp => by
  have : p.k ≠ k := fun e => h (e ▸ List.mem_map_of_mem hp)
  simpa using this
theorem erase_drop {k : ByteArray} {C : List Cw} (hn : (C.map (·.k)).Nodup) {j : Nat} (hj : j < C.length) (e : C[j].k = k) : C.take j ++ C.drop (j + 1) = dropC k C := by
  have h1 : C = C.take j ++ C[j] :: C.drop (j + 1) := by
    rw [← List.drop_eq_getElem_cons hj, List.take_append_drop]
  have h2 : (C.take j).map (·.k) ++ k :: (C.drop (j + 1)).map (·.k) = C.map (·.k) := by
    conv => rhs; rw [h1]
    rw [List.map_append, List.map_cons, e]
  rw [← h2] at hn
  obtain ⟨_, h4, h5⟩ := List.nodup_append.1 hn
  have h6 := List.nodup_cons.1 h4
  conv => rhs; rw [h1]
  unfold dropC
  rw [List.filter_append, List.filter_cons_of_neg (by simp [e])]
  congr 1
  · exact (dropC_none fun hm => h5 k hm k (List.mem_cons_self ..) rfl).symm
  · exact (dropC_none h6.1).symm
/-- When a key ends: by what the dues say. -/
theorem when_in {m : Md} (h : (m.S.map (·.2)).Nodup) {t : Int} {x : ByteArray} (hm : (t, x) ∈ m.S) : whenM m x = t := by
  unfold whenM
  rw [Ea.inD_iff.2 (List.mem_map.2 ⟨_, hm, rfl⟩), if_pos rfl, Ea.getD_one h hm]
theorem when_out {m : Md} {x : ByteArray} (hm : ∀ t, (t, x) ∉ m.S) : whenM m x = -1 := by
  unfold whenM
  cases e : inD x m.S with
  | false => simp
  | true =>
    obtain ⟨d, hd, hx⟩ := List.mem_map.1 (Ea.inD_iff.1 e)
    obtain ⟨t, y⟩ := d
    simp only at hx
    subst hx
    exact absurd hd (hm t)
theorem when_cong {m m' : Md} (h : (m.S.map (·.2)).Nodup) (h' : (m'.S.map (·.2)).Nodup) {x : ByteArray} (e : ∀ t, (t, x) ∈ m'.S ↔ (t, x) ∈ m.S) : whenM m' x = whenM m x := by
  by_cases hx : ∃ t, (t, x) ∈ m.S
  · obtain ⟨t, ht⟩ := hx
    rw [when_in h ht, when_in h' ((e t).2 ht)]
  · rw [when_out (m := m) fun t ht => hx ⟨t, ht⟩, when_out (m := m') fun t ht => hx ⟨t, (e t).1 ht⟩]
/-- What the cells say of a store. -/
structure RepC (C : List Cw) (m : Md) : Prop where
  ks : C.map (·.k) = m.K
  it : ∀ p ∈ C, p.i = m.f p.k ∧ p.t = whenM m p.k
  pre : Pre m
section
variable {C : List Cw} {m : Md}
theorem RepC.nd (h : RepC C m) : (C.map (·.k)).Nodup := by rw [h.ks]; exact h.pre.kn
theorem RepC.len (h : RepC C m) : C.length = m.K.length := by rw [← h.ks, List.length_map]
theorem RepC.right (h : RepC C m) {p : Cw} (hp : p ∈ C) : Ia.RightP p.i ∧ p.k.size ≤ 512 := by
  have hk : p.k ∈ m.K := by rw [← h.ks]; exact List.mem_map_of_mem hp
  rw [(h.it p hp).1]
  exact ⟨h.pre.ri _ hk, h.pre.kz _ hk⟩
theorem RepC.at_ (h : RepC C m) {k : ByteArray} (hk : inK k m.K = true) : ∃ j, ∃ hj : j < C.length, C[j].k = k ∧ C[j].i = m.f k ∧ C[j].t = whenM m k := by
  have h1 := Ca.inK_iff.1 hk
  rw [← h.ks] at h1
  obtain ⟨p, hp, rfl⟩ := List.mem_map.1 h1
  obtain ⟨j, hj, rfl⟩ := List.mem_iff_getElem.1 hp
  exact ⟨j, hj, rfl, (h.it _ hp).1, (h.it _ hp).2⟩
theorem RepC.out (h : RepC C m) {k : ByteArray} (hk : ¬ inK k m.K = true) : ∀ p ∈ C, p.k ≠ k := fun p hp e => hk (Ca.inK_iff.2 (by rw [← h.ks, ← e]; exact List.mem_map_of_mem hp))
theorem RepC.sum (h : RepC C m) : (C.map fun p => costN p.k p.i).sum = sumB m.f m.K := by
  unfold sumB
  rw [← h.ks, List.map_map]
  exact congrArg List.sum (List.map_congr_left fun p hp => by rw [(h.it p hp).1]; rfl)
theorem RepC.lose (h : RepC C m) (k : ByteArray) (kind : Int) (h0 : 0 ≤ kind) (h5 : kind ≤ 5) : RepC (dropC k C) (loseM k kind m) :=
  { ks := by rw [dropC_keys, h.ks]; rfl
    it := fun p hp => by
      obtain ⟨hp, hne⟩ := mem_dropC.1 hp
      refine ⟨(h.it p hp).1, (h.it p hp).2.trans (when_cong h.pre.sn (dropD_nodup h.pre.sn) fun t => ?_).symm⟩
      show (t, p.k) ∈ dropD k m.S ↔ _
      rw [Ea.mem_dropD]
      exact ⟨fun h => h.1, fun h => ⟨h, hne⟩⟩
    pre := h.pre.lose k kind h0 h5 }
theorem RepC.touch (h : RepC C m) {j : Nat} (hj : j < C.length) : RepC (dropC C[j].k C ++ [C[j]]) { m with K := touchK C[j].k m.K } :=
  { ks := by rw [List.map_append, dropC_keys, h.ks]; rfl
    it := fun p hp => by
      rcases List.mem_append.1 hp with hp | hp
      · exact h.it p (mem_dropC.1 hp).1
      · rw [List.mem_singleton.1 hp]; exact h.it _ (List.getElem_mem hj)
    pre := h.pre.touch (by rw [← h.ks]; exact List.mem_map_of_mem (List.getElem_mem hj)) }
theorem RepC.set (h : RepC C m) (k : ByteArray) (hk : k.size ≤ 512) (i : Ia.It) (hi : Ia.RightP i) (keep : Bool) (a : Option Addr) (c : Nat) (t : Int) (ht : t = if keep then whenM m k else -1) :
    RepC (dropC k C ++ [⟨k, i, a, c, t⟩]) (setM k i keep m) := by
  have hp := h.pre.set k hk i hi keep
  refine ⟨by rw [List.map_append, dropC_keys, h.ks]; rfl, fun p hq => ?_, hp⟩
  rcases List.mem_append.1 hq with hq | hq
  · obtain ⟨hq, hne⟩ := mem_dropC.1 hq
    refine ⟨(h.it p hq).1.trans (updF_ne hne).symm, (h.it p hq).2.trans (when_cong h.pre.sn hp.sn fun t => ?_).symm⟩
    show (t, p.k) ∈ (if keep then m.S else dropD k m.S) ↔ _
    cases keep
    · show (t, p.k) ∈ dropD k m.S ↔ _
      rw [Ea.mem_dropD]
      exact ⟨fun h => h.1, fun h => ⟨h, hne⟩⟩
    · exact Iff.rfl
  · rw [List.mem_singleton.1 hq]
    refine ⟨(updF_same m.f k i).symm, ?_⟩
    show t = whenM (setM k i keep m) k
    rw [ht]
    cases keep
    · refine (when_out (m := setM k i false m) fun t ht => ?_).symm
      exact (Ea.mem_dropD.1 (show (t, k) ∈ dropD k m.S from ht)).2 rfl
    · rfl
theorem set_it {P : Cw → Prop} {C : List Cw} {j : Nat} (hj : j < C.length) {q : Cw} (hq : P q) (h : ∀ i (hi : i < C.length), i ≠ j → P C[i]) : ∀ p ∈ C.set j q, P p := fun p hp => by
  obtain ⟨i, hi, rfl⟩ := List.mem_iff_getElem.1 hp
  by_cases e : i = j
  · subst e; rw [List.getElem_set_self]; exact hq
  · rw [List.getElem_set_ne (Ne.symm e)]; exact h i (by rw [List.length_set] at hi; exact hi) e
theorem RepC.ne (h : RepC C m) {i j : Nat} (hi : i < C.length) (hj : j < C.length) (e : i ≠ j) : C[i].k ≠ C[j].k := fun hk => e (by
  have h1 := h.nd
  have h2 := (List.getElem_inj (xs := C.map (·.k)) (i := i) (j := j) (h₀ := by simpa using hi) (h₁ := by simpa using hj) h1).1 (by simpa using hk)
  exact h2)
theorem set_ks {C : List Cw} {j : Nat} (hj : j < C.length) {q : Cw} (hq : q.k = C[j].k) : (C.set j q).map (·.k) = C.map (·.k) := by
  rw [List.map_set, hq]
  exact set_self (by simp [hj])
theorem RepC.due (h : RepC C m) (hok : Ok m) {j : Nat} (hj : j < C.length) {t : Int} (h0 : 0 ≤ t) (h1 : t ≤ 4611686018427387904) : RepC (C.set j (C[j].wt t)) (dueM C[j].k t m) := by
  have hk : C[j].k ∈ m.K := by rw [← h.ks]; exact List.mem_map_of_mem (List.getElem_mem hj)
  have hp := (hok.due hk h0 h1).toPre
  refine ⟨by exact (set_ks (q := C[j].wt t) hj rfl).trans h.ks, set_it hj ⟨(h.it _ (List.getElem_mem hj)).1, ?_⟩ fun i hi e => ⟨(h.it _ (List.getElem_mem hi)).1, (h.it _ (List.getElem_mem hi)).2.trans (when_cong h.pre.sn hp.sn fun s => ?_).symm⟩, hp⟩
  · exact (when_in (m := dueM C[j].k t m) hp.sn (Ea.mem_insD.2 (.inl rfl))).symm
  · show (s, C[i].k) ∈ insD (t, C[j].k) (dropD C[j].k m.S) ↔ _
    have hne := h.ne hi hj e
    rw [Ea.mem_insD, Ea.mem_dropD]
    constructor
    · rintro (h | h)
      · injection h with _ h; exact absurd h hne
      · exact h.1
    · exact fun h => .inr ⟨h, hne⟩
theorem RepC.undue (h : RepC C m) (hok : Ok m) {j : Nat} (hj : j < C.length) : RepC (C.set j (C[j].wt (-1))) (undueM C[j].k m) := by
  have hp := (hok.undue C[j].k).toPre
  refine ⟨by exact (set_ks (q := C[j].wt (-1)) hj rfl).trans h.ks, set_it hj ⟨(h.it _ (List.getElem_mem hj)).1, ?_⟩ fun i hi e => ⟨(h.it _ (List.getElem_mem hi)).1, (h.it _ (List.getElem_mem hi)).2.trans (when_cong h.pre.sn hp.sn fun s => ?_).symm⟩, hp⟩
  · exact (when_out (m := undueM C[j].k m) fun s hs => (Ea.mem_dropD.1 (show (s, C[j].k) ∈ dropD C[j].k m.S from hs)).2 rfl).symm
  · show (s, C[i].k) ∈ dropD C[j].k m.S ↔ _
    have hne := h.ne hi hj e
    rw [Ea.mem_dropD]
    exact ⟨fun h => h.1, fun h => ⟨h, hne⟩⟩
theorem RepC.flush (h : RepC C m) (hok : Ok m) : RepC [] (flushM m) := ⟨rfl, fun p hp => (nomatch hp), hok.flush.toPre⟩
theorem RepC.told (h : RepC C m) : RepC C (toldM m) := ⟨h.ks, h.it, { h.pre with e5 := fun e he => by cases he }⟩
theorem RepC.new (b : Int) : RepC [] (newM b) := ⟨rfl, fun p hp => (nomatch hp), (Ok.new b).toPre⟩
end
end Go.Proofs.YtmjlhmohglbecaaGreatDoor.Sa
/- Layer 12, the checking package's Store as a thing (refT); Find, without, gone, due. Conditions: bounds. -/
namespace Go.Proofs.YtmjlhmohglbecaaGreatDoor.Sa
set_option linter.unusedVariables false
set_option linter.unusedSimpArgs false
open Go.ChangeShapes Go.WideShapes Go.ChangeAt Go.RowKit
open Sp (Th Hp Stays All Ro roT rowT cellsT exT puT star)
def rowC (v : Value) (C : List Cw) : Th := rowT 87 5 v C.length (cellsC C)
/-- The checking package's Store. -/
def refT (B : Nat) (m : Md) : Th := exT fun g : Value × List Cw × Value => puT (RepC g.2.1 m) (star [cellsT B [g.1, .int .i64 m.b, g.2.2], rowC g.1 g.2.1, evsT g.2.2 m.ev, roT (rowsC g.2.1)])
section
variable {o w w' wb : World} {l : List Th} {B : Nat} {m : Md}
theorem ref_open (h : Hp o w (refT B m :: l)) : ∃ cv C ev, RepC C m ∧ Hp o w (cellsT B [cv, .int .i64 m.b, ev] :: rowC cv C :: evsT ev m.ev :: roT (rowsC C) :: l) := by
  obtain ⟨g, h⟩ := h.ex
  obtain ⟨hr, h⟩ := h.pu
  exact ⟨_, _, _, hr, h.open⟩
theorem ref_shut {cv ev : Value} {C : List Cw} {b : Int} {evl : List (Int × ByteArray)} (hr : RepC C m) (hb : m.b = b) (he : m.ev = evl) (h : Hp o w (cellsT B [cv, .int .i64 b, ev] :: rowC cv C :: evsT ev evl :: roT (rowsC C) :: l)) : Hp o w (refT B m :: l) := by
  subst hb he
  exact Hp.mkEx (cv, C, ev) (Hp.mkPu hr h.shut)
theorem iCell : (Tryz.prog.info? 87).map (fun i => (i.zero, i.size, i.bytes)) = some (some (.agg #[.string ⟨#[]⟩, .int .i64 0, .string ⟨#[]⟩, .slice none 0 0, .int .i64 0]), 5, 72) := by kernel_rfl
theorem cell5 {C : List Cw} {g c : Nat} (h : Hp o w (rowC (.slice (some ⟨g, 0, none⟩) C.length c) C :: l)) {j : Nat} (hj : j < C.length) :
    w.cell? ⟨g, j * 5, none⟩ = some (.string C[j].k) ∧ w.cell? ⟨g, j * 5 + 1, none⟩ = some (.int .i64 C[j].i.k) ∧ w.cell? ⟨g, j * 5 + 2, none⟩ = some (.string C[j].i.t) ∧ w.cell? ⟨g, j * 5 + 3, none⟩ = some (.slice C[j].a C[j].i.l.length C[j].c) ∧ w.cell? ⟨g, j * 5 + 4, none⟩ = some (.int .i64 C[j].t) := by
  have h0 := cellsC_at C j hj 0 (by decide)
  have h1 := cellsC_at C j hj 1 (by decide)
  have h2 := cellsC_at C j hj 2 (by decide)
  have h3 := cellsC_at C j hj 3 (by decide)
  have h4 := cellsC_at C j hj 4 (by decide)
  have k := fun r (hr : r < 5) => h.rowCell (j := j * 5 + r) (by omega)
  refine ⟨?_, ?_, ?_, ?_, ?_⟩
  · have := k 0 (by decide); rw [h0] at this; exact this
  · have := k 1 (by decide); rw [h1] at this; exact this
  · have := k 2 (by decide); rw [h2] at this; exact this
  · have := k 3 (by decide); rw [h3] at this; exact this
  · have := k 4 (by decide); rw [h4] at this; exact this
/-- Where a key stands, or -1. -/
def IdxC (k : ByteArray) (C : List Cw) (r : Int) : Prop := (r = -1 ∧ ∀ p ∈ C, p.k ≠ k) ∨ ∃ j, ∃ hj : j < C.length, r = (j : Int) ∧ C[j].k = k
theorem idx_get {C : List Cw} (hr : RepC C m) (k : ByteArray) : ∃ r, IdxC k C r ∧ (0 ≤ r ↔ Ca.inK k m.K = true) := by
  by_cases h : Ca.inK k m.K = true
  · obtain ⟨j, hj, e, -⟩ := hr.at_ h
    exact ⟨j, .inr ⟨j, hj, rfl, e⟩, ⟨fun _ => h, fun _ => by omega⟩⟩
  · exact ⟨-1, .inl ⟨rfl, hr.out h⟩, ⟨fun h => by omega, fun hh => absurd hh h⟩⟩
/-- The checking package's Cost of an item that can be. -/
theorem refcost_calls (W : World) (k : ByteArray) (hk : k.size ≤ 1000) (i : Ia.It) (hr : Ia.RightP i) (a : Option Addr) (c : Nat) (hI : Ia.InF W a i.l) :
    Calls Tryz.prog 41 #[.string k, .agg #[.int .i64 i.k, .string i.t, .slice a i.l.length c]] W fun e w' => e = .returned (.int .i64 (costN k i : Nat)) ∧ Below W.heap.size W w' := by
  obtain ⟨kd, t, l⟩ := i
  rcases costN_nat (k := k) hr with ⟨h1, h2⟩ | ⟨h1, h2⟩
  · have h1 : kd = 1 := h1
    subst h1
    rw [h2]
    rcases hr with ⟨-, ht, -⟩ | ⟨h, -⟩
    · exact Ia.refCost_text W k t _ (by omega) (by have : t.size ≤ 4096 := ht; omega)
    · have h : (1 : Int) = 2 := h
      omega
  · have h1 : kd = 2 := h1
    subst h1
    rw [h2]
    rcases hr with ⟨h, -⟩ | ⟨-, -, hA⟩
    · have h : (2 : Int) = 1 := h
      omega
    · have hl : l.length ≤ 256 := hA.2.1
      have h3 := Ia.sumC_bound l fun j hj => ⟨by have h : l[j].1.size ≤ 512 := (hA.2.2 j hj).1; omega, by have h : l[j].2.size ≤ 4096 := (hA.2.2 j hj).2.1; omega⟩
      exact Ia.refCost_hash W k t a c _ l rfl (by omega) (by show Ia.sumC l ≤ _; omega) (by omega) hI
theorem nd_ne {C : List Cw} (hn : (C.map (·.k)).Nodup) {i j : Nat} (hi : i < C.length) (hj : j < C.length) (e : C[i].k = C[j].k) : i = j :=
  (List.getElem_inj (xs := C.map (·.k)) (i := i) (j := j) (h₀ := by simpa using hi) (h₁ := by simpa using hj) hn).1 (by simpa using e)
set_option maxHeartbeats 4000000 in
set_option maxRecDepth 100000 in
theorem find_calls {cv bv ev : Value} {C : List Cw} (h : Hp o w (cellsT B [cv, bv, ev] :: rowC cv C :: l)) (hw : Below w.heap.size w wb) (hn : (C.map (·.k)).Nodup) (hl : C.length ≤ 1000000) (k : ByteArray) (r : Int) (hr : IdxC k C r) :
    Calls Tryz.prog 81 #[.pointer (some ⟨B, 0, none⟩), .string k] wb fun e w' => e = .returned (.int .i64 r) ∧ Hp o w' (cellsT B [cv, bv, ev] :: rowC cv C :: l) := by
  have H0 := Lib.hid (h.bel hw)
  have HR := Lib.hid hr
  have HN := Lib.hid hn
  have c0 := H0.out.cell 0 rfl
  obtain ⟨a, cc, rfl, -, hcc, ha⟩ := (H0.out.pull 1 rfl).rowForm
  clear h hw hr hn
  go_enter Tryz.func81, Tryz.ntmps81
  go_wp2_with fail
  go_loopg [5, 6, 12] (C.length + 1) (fun g _ _ vi wr => ∃ j : Nat, vi = .int .i64 j ∧ j ≤ C.length ∧ C.length - j ≤ g ∧ Hid (∀ i (hi : i < C.length), i < j → C[i].k ≠ k) ∧ Hid (Hp o wr (cellsT B [.slice a C.length cc, bv, ev] :: rowC (.slice a C.length cc) C :: l)))
  case atStart => exact ⟨0, rfl, by omega, by omega, Lib.hid (fun i hi h => by omega), H0⟩
  case round =>
    obtain ⟨j, rfl, hj, hg, HB, HH⟩ := hrel
    clear H0
    by_cases hjl : j < C.length
    case pos =>
      have hjc : (j : Int) < (C.length : Int) := by omega
      obtain ⟨gb, rfl⟩ := ha (by omega)
      obtain ⟨d0, d1, d2, d3, d4⟩ := cell5 (HH.out.pull 1 rfl) hjl
      have HX := Lib.hid (HH.out.bel (Sp.bbox (w := wr) (.cells #[.string C[j].k, .int .i64 C[j].i.k, .string C[j].i.t, .slice C[j].a C[j].i.l.length C[j].c, .int .i64 C[j].t] 87)))
      clear ha
      by_cases hq : C[j].k = k
      · have hqe := Ea.beq_eq hq
        have HV : Hid (r = (j : Int)) := Lib.hid (by
          rcases HR.out with ⟨-, h⟩ | ⟨i, hi, e, h⟩
          · exact absurd hq (h _ (List.getElem_mem hjl))
          · rw [e, nd_ne HN.out hi hjl (h.trans hq.symm)])
        clear HH hq
        generalize C[j] = p at *
        go_wp2_with fail
        go_ret
        exact ⟨by rw [HV.out]; rfl, HX.out⟩
      · have hqe := Ea.beq_ne hq
        have HB1 : Hid (∀ i (hi : i < C.length), i < j + 1 → C[i].k ≠ k) := Lib.hid (fun i hi h => by
          by_cases e : i = j
          · subst e; exact hq
          · exact HB.out i hi (by omega))
        clear HH hq
        generalize C[j] = p at *
        go_wp2_with fail
        go_roundg (gk - 1)
        case measure => omega
        case rel => exact ⟨j + 1, by go_num, by omega, by omega, HB1, HX⟩
    case neg =>
      have hjc : ¬ ((j : Int) < (C.length : Int)) := by omega
      have HV : Hid (r = -1) := Lib.hid (by
        rcases HR.out with ⟨e, -⟩ | ⟨i, hi, -, h⟩
        · exact e
        · exact absurd h (HB.out i hi (by omega)))
      go_wp2_with fail
      go_ret
      exact ⟨by rw [HV.out]; rfl, HH.out⟩
set_option maxHeartbeats 8000000 in
set_option maxRecDepth 100000 in
theorem without_calls {cv bv ev : Value} {C : List Cw} (h : Hp o w (cellsT B [cv, bv, ev] :: rowC cv C :: l)) (hw : Below w.heap.size w wb) (hl : C.length ≤ 1000000) {j : Nat} (hj : j < C.length) :
    Calls Tryz.prog 58 #[.pointer (some ⟨B, 0, none⟩), .int .i64 j] wb fun e w' => e = .returned (.tuple #[]) ∧ ∃ cv', Hp o w' (cellsT B [cv', bv, ev] :: rowC cv' (C.take j ++ C.drop (j + 1)) :: l) := by
  have HH := Lib.hid (h.bel hw)
  have c0 := HH.out.cell 0 rfl
  obtain ⟨a, cc, rfl, hnc, hcc, ha⟩ := (HH.out.pull 1 rfl).rowForm
  obtain ⟨gb, rfl⟩ := ha (by omega)
  clear h hw ha
  obtain ⟨i0, hi, hz0, hz1, hz2⟩ := info_parts iCell
  have hcl := cellsC_len C
  have hjc : (j : Int) < (C.length : Int) := by omega
  have ec0 : ∀ x, x < C.length * 5 → ∀ W, Below wb.heap.size wb W → W.cell? ⟨gb, x, none⟩ = (cellsC C)[x]? := fun x hx W hb => ((HH.out.bel hb).pull 1 rfl).rowCell hx
  have h1 := HH.out.rowAdd (w' := wb.alloc (.cells #[] 87)) (e := 87) (size := 5) (v := .slice (some ⟨wb.heap.size, 0, none⟩) 0 0) (n := 0) (xs := []) (Sp.bbox _) (World.ownsRow_made wb #[] 0 (Nat.le_refl _) (Nat.zero_le _) rfl) (Nat.le_refl _)
  obtain ⟨a1, c1, w1, hrun1, h2, hst1⟩ := Sp.rowRun h1 (wb := (wb.alloc (.cells #[] 87)).drew) (Below.drew (Below.refl _ _)) 44 44 i0 _ 72 Tryz.underlying44 hi hz0 hz1 hz2 rfl (by decide) ⟨gb, 0, none⟩ j cc (cellsC (C.take j)) (by rw [cellsC_len, List.length_take, Nat.min_eq_left (by omega)])
    (fun x u hu => by
      rw [Addr.add_lit, Nat.zero_add]
      have hx : x < j * 5 := by
        have := (List.getElem?_eq_some_iff.1 hu).1
        rw [cellsC_len, List.length_take, Nat.min_eq_left (by omega)] at this; exact this
      rw [ec0 x (by omega) _ (Below.drew (Sp.bbox _)), ← hu, ← cellsC_take, List.getElem?_take_of_lt hx])
    (cellsC_one _) (by unfold maxLen; omega) (by omega)
  have e1 : (0 : Nat) + j = j := by omega
  rw [e1, List.nil_append] at h2
  rw [e1] at hrun1
  have hd2 : (C.drop (j + 1)).length = C.length - (j + 1) := by rw [List.length_drop]
  obtain ⟨off, hoff⟩ : ∃ off, (cc = j + 1 ∧ off = 0) ∨ (¬ cc = j + 1 ∧ off = (j + 1) * 5) := by
    by_cases e : cc = j + 1
    · exact ⟨0, .inl ⟨e, rfl⟩⟩
    · exact ⟨_, .inr ⟨e, rfl⟩⟩
  obtain ⟨a2, c2, w2, hrun2, h3, hst2⟩ := Sp.rowRun h2 (wb := w1) (Below.refl _ _) 44 44 i0 _ 72 Tryz.underlying44 hi hz0 hz1 hz2 rfl (by decide) ⟨gb, off, none⟩ (C.length - (j + 1)) (cc - (j + 1)) (cellsC (C.drop (j + 1))) (by rw [cellsC_len, hd2])
    (fun x u hu => by
      have hx : x < (C.length - (j + 1)) * 5 := by
        have := (List.getElem?_eq_some_iff.1 hu).1
        rw [cellsC_len, hd2] at this; exact this
      obtain ⟨hcap, rfl⟩ : ¬ cc = j + 1 ∧ off = (j + 1) * 5 := by rcases hoff with h | h; exact absurd h.1 (by omega); exact h
      rw [Addr.add_lit, (h2.pull 2 rfl).rowCell (j := (j + 1) * 5 + x) (by omega), ← hu, cellsC_drop C (j + 1) (by omega)])
    (cellsC_one _) (by unfold maxLen; omega) (by omega)
  have e2 : j + (C.length - (j + 1)) = (C.take j ++ C.drop (j + 1)).length := by rw [List.length_append, List.length_take, hd2, Nat.min_eq_left (by omega)]
  rw [e2, ← cellsC_app] at h3
  rw [e2] at hrun2
  have H3 : Hid (Hp o w2 (cellsT B [.slice (some ⟨gb, 0, none⟩) C.length cc, bv, ev] :: rowC (.slice a2 (C.take j ++ C.drop (j + 1)).length c2) (C.take j ++ C.drop (j + 1)) :: l)) := Lib.hid ((h3.pull 2 rfl).drop.pull 1 rfl)
  have c0a : (wb.alloc (.cells #[] 87)).cell? ⟨B, 0, none⟩ = some (.slice (some ⟨gb, 0, none⟩) C.length cc) := (HH.out.bel (Sp.bbox _)).cell 0 rfl
  have c01 := (h2.pull 1 rfl).cell 0 rfl
  have c02 := H3.out.cell 0 rfl
  have f02 := H3.out.free 0 rfl
  clear h1 h2 h3 hst1 hst2 hi hz0 hz1 hz2 ec0 hcl e1 e2 hd2
  generalize C.take j ++ C.drop (j + 1) = D at *
  have hjcc : j ≤ cc := by omega
  have hji : (j : Int) ≤ (j : Int) + 1 := by omega
  have hj1 : j + 1 ≤ C.length := by omega
  have hj2 : j + 1 ≤ cc := by omega
  have hwj : IntKind.i64.wrap ((j : Int) + 1) = ((j + 1 : Nat) : Int) := by rw [IntKind.wrap_i64]; omega
  have hA : (0 : Int) ≤ (j : Int) + 1 := by omega
  have hB : (j : Int) + 1 ≤ (C.length : Int) := by omega
  rcases hoff with ⟨rfl, rfl⟩ | ⟨hcap, rfl⟩
  all_goals try (rw [show C.length - (j + 1) = 0 by omega, Nat.sub_self] at hrun2)
  all_goals go_enter Tryz.func58, Tryz.ntmps58
  all_goals go_wp2_with fail
  all_goals go_region_law (
    first
    | (refine Sp.step_app (o := ⟨some 12, _, _, _, _, _⟩) rfl (.tmp 5) (.tmp 11) rfl ?_ ?_ hrun1 ?_
       first | rfl | simp [Act.eval]
       first | rfl | simp [Act.eval])
    | (refine Sp.step_app (o := ⟨some 20, _, _, _, _, _⟩) rfl (.tmp 12) (.tmp 19) rfl ?_ ?_ hrun2 ?_
       first | rfl | simp [Act.eval]
       first | rfl | simp [Act.eval]))
  all_goals (go_wp2_with fail; go_end0; exact ⟨rfl, _, H3.out.cellSet 0 _ rfl⟩)
end
end Go.Proofs.YtmjlhmohglbecaaGreatDoor.Sa
/- Layer 12, the checking package's gone, due, Bytes. Conditions: its Store as it lies; bounds. -/
namespace Go.Proofs.YtmjlhmohglbecaaGreatDoor.Sa
set_option linter.unusedVariables false
set_option linter.unusedSimpArgs false
open Go.ChangeShapes Go.WideShapes Go.ChangeAt Go.RowKit
open Sp (Th Hp Stays All Ro roT rowT cellsT exT puT star)
section
variable {o w w' wb : World} {l : List Th} {B : Nat} {m : Md}
/-- append of one event. -/
theorem evPush {ops : Array Oper} {rest : List Oper} {op : Oper} {a : Act} {Q : Exit → Act → World → Prop} {v : Value} {evl : List (Int × ByteArray)} (h : Hp o w (evsT v evl :: l)) (hgd : op.guard = none) (s x : Operand)
    (ho : op.op = .call { callee := .builtin .append, args := #[s, x], argTypes := #[41, 41] }) (hs : a.eval s = v) (kind : Int) (key : ByteArray) (hx : a.eval x = .slice (some ⟨w.heap.size, 0, none⟩) 1 1) (hn : evl.length ≤ 1000000)
    (K : ∀ a' c' w', Hp o w' (evsT (.slice a' (evl.length + 1) c') (evl ++ [(kind, key)]) :: l) → wpList Tryz.prog ops Q rest (a.put op.dst (.slice a' (evl.length + 1) c')) w') :
    wpList Tryz.prog ops Q (op :: rest) a (w.alloc (.cells #[.int .i64 kind, .string key] 62)) := by
  obtain ⟨i0, hi, hz0, hz1, hz2⟩ := info_parts iEv
  refine Hp.rowPush (n := evl.length) (xs := cellsE evl) h (Sp.bbox _) hgd s x 41 ho i0 _ 24 Tryz.underlying41 hi hz0 hz1 hz2 rfl (by decide) hs ⟨w.heap.size, 0, none⟩ 1 1 [.int .i64 kind, .string key] hx rfl (cells2_new w _ _ _) ?_ ?_ ?_ fun v' w' h' hst => ?_
  · intro u hu; simp only [List.mem_cons, List.not_mem_nil, or_false] at hu; rcases hu with rfl | rfl <;> rfl
  · unfold maxLen; omega
  · omega
  · obtain ⟨a', c', rfl, -, -, -⟩ := h'.rowForm
    refine K a' c' w' ?_
    unfold evsT
    rw [List.length_append, cellsE_app]
    exact h'
theorem goneM_in {k : ByteArray} {kind : Int} {m : Md} (h : Ca.inK k m.K = true) : goneM k kind m = loseM k kind m := by unfold goneM; rw [if_pos h]
theorem goneM_out {k : ByteArray} {kind : Int} {m : Md} (h : Ca.inK k m.K = false) : goneM k kind m = m := by unfold goneM; rw [h]; rfl
theorem rows_sub {C D : List Cw} (h : Hp o w (roT (rowsC C) :: l)) (hs : ∀ p ∈ D, p ∈ C) : Hp o w (roT (rowsC D) :: l) := ro_map h fun h p hp => h p (hs p hp)
set_option maxHeartbeats 8000000 in
set_option maxRecDepth 100000 in
theorem rgone_calls (h : Hp o w (refT B m :: l)) (hw : Below w.heap.size w wb) (k : ByteArray) (kind : Int) (h0 : 0 ≤ kind) (h5 : kind ≤ 5) (hn : m.K.length ≤ 1000) (he : m.ev.length ≤ 100000) :
    Calls Tryz.prog 60 #[.pointer (some ⟨B, 0, none⟩), .string k, .int .i64 kind] wb fun e w' => e = .returned (.bool (Ca.inK k m.K)) ∧ Hp o w' (refT B (goneM k kind m) :: l) := by
  obtain ⟨cv, C, ev, hr, h⟩ := ref_open (h.bel hw)
  obtain ⟨r, hI, hrk⟩ := idx_get hr k
  have hcl : C.length ≤ 1000 := by rw [hr.len]; exact hn
  have HF := Lib.hid (find_calls h (Below.refl _ _) hr.nd (by omega) k r hI)
  have HR := Lib.hid hr
  clear hw h hn
  cases hin : Ca.inK k m.K with
  | false =>
    have hr0 : r < 0 := by rw [hin] at hrk; simp at hrk; exact hrk
    have HE := Lib.hid (goneM_out (kind := kind) hin)
    clear hin hrk hI hr h0 h5
    go_enter Tryz.func60, Tryz.ntmps60
    go_wp2_with fail
    refine HF.out.mono ?_; rintro en w1 ⟨rfl, h1⟩
    have H1 := Lib.hid h1
    clear HF h1
    go_wp2_with fail
    go_ret
    exact ⟨rfl, by rw [HE.out]; exact ref_shut HR.out rfl rfl H1.out⟩
  | true =>
    obtain ⟨j, hj, rfl, hk⟩ : ∃ j, ∃ hj : j < C.length, r = (j : Int) ∧ C[j].k = k := by
      rcases hI with ⟨e, -⟩ | h
      · have := hrk.2 hin; omega
      · exact h
    have HE := Lib.hid (goneM_in (kind := kind) hin)
    have HZ := Lib.hid (hr.lose k kind h0 h5)
    have HK := Lib.hid (erase_drop hr.nd hj hk)
    clear hin hrk hI hr hk h0 h5
    go_enter Tryz.func60, Tryz.ntmps60
    go_wp2_with fail
    refine HF.out.mono ?_; rintro en w1 ⟨rfl, h1⟩
    have HW := Lib.hid (without_calls h1 (Below.refl _ _) (by omega) hj)
    rw [HK.out] at HW
    clear HF h1
    go_wp2_with fail
    refine HW.out.mono ?_; rintro en w2 ⟨rfl, cv', h2⟩
    have H2 : Hid (Hp o w2 (evsT ev m.ev :: cellsT B [cv', .int .i64 m.b, ev] :: rowC cv' (dropC k C) :: roT (rowsC C) :: l)) := Lib.hid (h2.pull 2 rfl)
    have e2 := (H2.out.pull 1 rfl).cell 2 rfl
    clear h2 HW
    go_wp2_with (at_builtin; refine evPush H2.out rfl _ _ rfl rfl kind k rfl (by omega) ?_)
    intro a3 c3 w3 h3
    have H3 : Hid (Hp o w3 (cellsT B [cv', .int .i64 m.b, ev] :: evsT (.slice a3 (m.ev.length + 1) c3) (m.ev ++ [(kind, k)]) :: rowC cv' (dropC k C) :: roT (rowsC C) :: l)) := Lib.hid (h3.pull 1 rfl)
    have g2 := H3.out.cell 2 rfl
    have f2 := H3.out.free 2 rfl
    clear h3 H2 e2
    go_wp2_with fail
    go_ret
    refine ⟨rfl, ?_⟩
    rw [HE.out]
    have h4 := (H3.out.cellSet 2 (.slice a3 (m.ev.length + 1) c3) rfl).pull 2 rfl
    have h5 := rows_sub (D := dropC k C) (h4.pull 3 rfl) fun p hp => (mem_dropC.1 hp).1
    have h6 := h5.pull 1 rfl
    exact ref_shut HZ.out rfl rfl ((((h6.pull 2 rfl).pull 3 rfl).pull 2 rfl).pull 2 rfl)
theorem idx_in {C : List Cw} (hr : RepC C m) {k : ByteArray} {r : Int} (hI : IdxC k C r) : 0 ≤ r ↔ Ca.inK k m.K = true := by
  obtain ⟨r2, h2, h3⟩ := idx_get hr k
  have e : r = r2 := by
    rcases hI with ⟨e1, g1⟩ | ⟨i, hi, e1, g1⟩ <;> rcases h2 with ⟨e2, g2⟩ | ⟨j, hj, e2, g2⟩
    · rw [e1, e2]
    · exact absurd g2 (g1 _ (List.getElem_mem hj))
    · exact absurd g1 (g2 _ (List.getElem_mem hi))
    · rw [e1, e2, nd_ne hr.nd hi hj (g1.trans g2.symm)]
  rw [e]; exact h3
theorem endM_out {k : ByteArray} {now : Int} (hp : Pre m) (h : ¬ (0 ≤ whenM m k ∧ whenM m k ≤ now)) : endM k now m = m := by
  unfold endM
  rw [if_neg fun hh => h ((ends_iff hp k now).1 hh)]
theorem endM_in {k : ByteArray} {now : Int} (hp : Pre m) (h : 0 ≤ whenM m k ∧ whenM m k ≤ now) : endM k now m = loseM k 3 m := by
  unfold endM
  rw [if_pos ((ends_iff hp k now).2 h)]
theorem when_no {k : ByteArray} (hp : Pre m) (h : Ca.inK k m.K = false) : whenM m k = -1 := when_out fun t ht => by
  have := hp.sk _ ht
  rw [Ca.inK_iff.2 this] at h; cases h
set_option maxHeartbeats 8000000 in
set_option maxRecDepth 100000 in
theorem rdue_calls (h : Hp o w (refT B m :: l)) (hw : Below w.heap.size w wb) (k : ByteArray) (now : Int) (hn : m.K.length ≤ 1000) (he : m.ev.length ≤ 100000) :
    Calls Tryz.prog 57 #[.pointer (some ⟨B, 0, none⟩), .string k, .int .i64 now] wb fun e w' => ∃ cv C ev r, e = .returned (.int .i64 r) ∧ RepC C (endM k now m) ∧ IdxC k C r ∧ Hp o w' (cellsT B [cv, .int .i64 (endM k now m).b, ev] :: rowC cv C :: evsT ev (endM k now m).ev :: roT (rowsC C) :: l) := by
  obtain ⟨cv, C, ev, hr, h⟩ := ref_open (h.bel hw)
  obtain ⟨r, hI, hrk⟩ := idx_get hr k
  obtain ⟨a, cc, rfl, -, hcc, ha⟩ := (h.pull 1 rfl).rowForm
  have hcl : C.length ≤ 1000 := by rw [hr.len]; exact hn
  have HF := Lib.hid (find_calls h (Below.refl _ _) hr.nd (by omega) k r hI)
  have HR := Lib.hid hr
  have HI := Lib.hid hI
  have HE := Lib.hid he
  have HNk := Lib.hid hn
  clear hw h hn he
  cases hin : Ca.inK k m.K with
  | false =>
    have hr0 : r < 0 := by rw [hin] at hrk; simp at hrk; omega
    have hEn := Lib.hid (endM_out (now := now) hr.pre (by rw [when_no hr.pre hin]; omega))
    clear hin hrk hI hr HE ha
    go_enter Tryz.func57, Tryz.ntmps57
    go_wp2_with fail
    refine HF.out.mono ?_; rintro en w1 ⟨rfl, h1⟩
    have H1 := Lib.hid h1
    clear HF h1
    go_wp2_with fail
    go_ret
    rw [hEn.out]
    exact ⟨_, C, ev, r, rfl, HR.out, HI.out, H1.out⟩
  | true =>
    obtain ⟨j, hj, rfl, hk⟩ : ∃ j, ∃ hj : j < C.length, r = (j : Int) ∧ C[j].k = k := by
      rcases hI with ⟨e, -⟩ | h
      · have := hrk.2 hin; omega
      · exact h
    obtain ⟨gb, rfl⟩ := ha (by omega)
    have ht : C[j].t = whenM m k := by rw [← hk]; exact (hr.it _ (List.getElem_mem hj)).2
    have HIN := Lib.hid hin
    by_cases hends : 0 ≤ whenM m k ∧ whenM m k ≤ now
    · have hEn := Lib.hid (endM_in hr.pre hends)
      obtain ⟨hp0, hp1⟩ := hends
      rw [← ht] at hp0 hp1
      clear hrk hI hr hk ht hin ha
      go_enter Tryz.func57, Tryz.ntmps57
      go_wp2_with fail
      refine HF.out.mono ?_; rintro en w1 ⟨rfl, h1⟩
      have HG := Lib.hid (rgone_calls (ref_shut HR.out rfl rfl h1) (Below.refl _ _) k 3 (by decide) (by decide) HNk.out HE.out)
      obtain ⟨-, -, -, -, d4⟩ := cell5 (h1.pull 1 rfl) hj
      have c0 := h1.cell 0 rfl
      have hjc : (j : Int) < (C.length : Int) := by omega
      clear HF h1
      generalize C[j].t = t at *
      go_wp2_with fail
      refine HG.out.mono ?_; rintro en w2 ⟨rfl, h2⟩
      rw [goneM_in HIN.out, ← hEn.out] at h2
      have H2 := Lib.hid h2
      clear HG h2 c0 d4
      go_wp2_with fail
      go_ret
      obtain ⟨cv2, C2, ev2, hr2, h2⟩ := ref_open H2.out
      refine ⟨cv2, C2, ev2, -1, rfl, hr2, .inl ⟨rfl, hr2.out ?_⟩, h2⟩
      rw [hEn.out]
      show ¬ Ca.inK k (Ca.dropK k m.K) = true
      rw [Ca.inK_iff, Ca.mem_dropK]
      exact fun h => h.2 rfl
    · have hEn := Lib.hid (endM_out (now := now) hr.pre hends)
      have hends2 : C[j].t < 0 ∨ (0 ≤ C[j].t ∧ now < C[j].t) := by rw [ht]; omega
      clear hrk hI hr hk ht hin ha hends
      go_enter Tryz.func57, Tryz.ntmps57
      go_wp2_with fail
      refine HF.out.mono ?_; rintro en w1 ⟨rfl, h1⟩
      have H1 := Lib.hid h1
      obtain ⟨-, -, -, -, d4⟩ := cell5 (h1.pull 1 rfl) hj
      have c0 := h1.cell 0 rfl
      have hjc : (j : Int) < (C.length : Int) := by omega
      clear HF h1
      generalize C[j].t = t at *
      rcases hends2 with hq | ⟨hq0, hq1⟩
      · go_wp2_with fail
        go_ret
        rw [hEn.out]
        exact ⟨_, C, ev, _, rfl, HR.out, HI.out, H1.out⟩
      · go_wp2_with fail
        go_ret
        rw [hEn.out]
        exact ⟨_, C, ev, _, rfl, HR.out, HI.out, H1.out⟩
/-- How many bytes cells count. -/
def csum (C : List Cw) : Nat := (C.map fun p => costN p.k p.i).sum
theorem csum_take {C : List Cw} {j : Nat} (hj : j < C.length) : csum (C.take (j + 1)) = csum (C.take j) + costN C[j].k C[j].i := by
  unfold csum
  rw [← List.take_append_getElem hj, List.map_append, List.sum_append]
  simp
theorem csum_le {C : List Cw} (h : RepC C m) (j : Nat) : csum (C.take j) ≤ 2000000 * C.length := by
  have key : ∀ D : List Cw, (∀ p ∈ D, p ∈ C) → csum D ≤ 2000000 * D.length := fun D => by
    induction D with
    | nil => intro _; simp [csum]
    | cons p D ih =>
      intro hD
      have h1 := h.right (hD p (List.mem_cons_self ..))
      have h2 := costN_le h1.2 h1.1
      have h3 := ih fun x hx => hD x (List.mem_cons_of_mem _ hx)
      have h4 : csum (p :: D) = costN p.k p.i + csum D := by simp [csum]
      rw [h4, List.length_cons]; omega
  have := key (C.take j) fun p hp => List.mem_of_mem_take hp
  rw [List.length_take] at this
  have h5 : min j C.length ≤ C.length := Nat.min_le_right ..
  omega
set_option maxHeartbeats 8000000 in
set_option maxRecDepth 100000 in
theorem rbytes_calls (h : Hp o w (refT B m :: l)) (hw : Below w.heap.size w wb) (hn : m.K.length ≤ 1000) :
    Calls Tryz.prog 13 #[.pointer (some ⟨B, 0, none⟩)] wb fun e w' => e = .returned (.int .i64 (sumB m.f m.K : Nat)) ∧ Below wb.heap.size wb w' := by
  obtain ⟨cv, C, ev, hr, h⟩ := ref_open (h.bel hw)
  obtain ⟨a, cc, rfl, -, hcc, ha⟩ := (h.pull 1 rfl).rowForm
  have hcl : C.length ≤ 1000 := by rw [hr.len]; exact hn
  have H0 := Lib.hid h
  have HR := Lib.hid hr
  have c0 := h.cell 0 rfl
  have HS : Hid (csum C = sumB m.f m.K) := Lib.hid hr.sum
  have HB0 := Lib.hid (Below.refl wb.heap.size wb)
  clear hw h hn hr
  go_enter Tryz.func13, Tryz.ntmps13
  go_wp2_with fail
  go_loopg [3, 5, 11] (C.length + 1) (fun g vn _ vi wr => ∃ j : Nat, vi = .int .i64 j ∧ j ≤ C.length ∧ C.length - j ≤ g ∧ vn = .int .i64 (csum (C.take j) : Nat) ∧ Hid (Below wb.heap.size wb wr))
  case atStart => exact ⟨0, rfl, by omega, by omega, rfl, HB0⟩
  case round =>
    obtain ⟨j, rfl, hj, hg, rfl, HB⟩ := hrel
    clear HB0
    by_cases hjl : j < C.length
    case pos =>
      have hjc : (j : Int) < (C.length : Int) := by omega
      obtain ⟨gb, rfl⟩ := ha (by omega)
      have h1 := H0.out.bel HB.out
      obtain ⟨d0, d1, d2, d3, d4⟩ := cell5 (h1.pull 1 rfl) hjl
      have hrt := HR.out.right (List.getElem_mem hjl)
      have HX := Lib.hid (Sp.bstep HB.out (Sp.bbox (w := wr) (.cells #[.string C[j].k, .int .i64 C[j].i.k, .string C[j].i.t, .slice C[j].a C[j].i.l.length C[j].c, .int .i64 C[j].t] 87)))
      have HC := Lib.hid (refcost_calls (wr.alloc (.cells #[.string C[j].k, .int .i64 C[j].i.k, .string C[j].i.t, .slice C[j].a C[j].i.l.length C[j].c, .int .i64 C[j].t] 87)) C[j].k (by have := hrt.2; omega) C[j].i hrt.1 C[j].a C[j].c
        (((H0.out.bel HX.out).pull 3 rfl).say fun {A R} hp _ hR => ((hp.2 _ (List.getElem_mem hjl)).2.2).inF hR))
      have hs1 := csum_le HR.out j
      have hs2 := csum_le HR.out (j + 1)
      have HST := Lib.hid (csum_take hjl)
      rw [HST.out] at hs2
      clear ha h1 hrt
      generalize costN C[j].k C[j].i = cn at *
      generalize C[j].k = pk at *
      generalize C[j].i = pi at *
      generalize C[j].a = pa at *
      generalize C[j].c = pc at *
      generalize C[j].t = pt at *
      generalize csum (C.take j) = cs at *
      go_wp2_with fail
      refine HC.out.mono ?_; rintro en w2 ⟨rfl, hb2⟩
      have HX2 := Lib.hid (Sp.bstep HX.out hb2)
      clear hb2 HC d0 d1 d2 d3 d4
      go_wp2_with fail
      go_roundg (gk - 1)
      case measure => omega
      case rel => exact ⟨j + 1, by go_num, by omega, by omega, by rw [HST.out]; go_num, HX2⟩
    case neg =>
      have hjc : ¬ ((j : Int) < (C.length : Int)) := by omega
      obtain rfl : j = C.length := by omega
      rw [List.take_length] at *
      rw [HS.out] at *
      go_wp2_with fail
      go_ret
      exact ⟨rfl, HB.out⟩
end
end Go.Proofs.YtmjlhmohglbecaaGreatDoor.Sa
/- Layer 12, the checking package's Peek, Drop, Ttl. Conditions: its Store as it lies; bounds. -/
namespace Go.Proofs.YtmjlhmohglbecaaGreatDoor.Sa
set_option linter.unusedVariables false
set_option linter.unusedSimpArgs false
open Go.ChangeShapes Go.WideShapes Go.ChangeAt Go.RowKit
open Sp (Th Hp Stays All Ro roT rowT cellsT exT puT star)
section
variable {o w w' wb : World} {l : List Th} {B : Nat} {m : Md}
theorem idx_j {C : List Cw} {k : ByteArray} {r : Int} (hI : IdxC k C r) (h0 : 0 ≤ r) : ∃ j, ∃ hj : j < C.length, r = (j : Int) ∧ C[j].k = k := by
  rcases hI with ⟨e, -⟩ | h
  · omega
  · exact h
/-- One cell's item is known. -/
theorem rows_item {C : List Cw} (h : Hp o w (roT (rowsC C) :: l)) {j : Nat} (hj : j < C.length) : Hp o w (roT (itemR C[j].a C[j].c C[j].i) :: roT (rowsC C) :: l) := by
  have h1 : Hp o w (roT (rowsC C) :: roT (rowsC C) :: l) := by
    obtain ⟨O, R, ⟨A, B, ⟨h0, h1⟩, h2, h3, h4⟩, h5⟩ := h
    exact ⟨O, R, ⟨fun _ => False, O, ⟨fun _ h => h, h1⟩, ⟨A, B, ⟨h0, h1⟩, h2, h3, h4⟩, fun _ h => h.elim, fun x => by simp⟩, h5⟩
  exact ro_map h1 fun h => h _ (List.getElem_mem hj)
theorem end_K {k : ByteArray} {now : Int} {m : Md} (hn : m.K.length ≤ 1000) : (endM k now m).K.length ≤ 1000 := Nat.le_trans (end_len k now m) hn
set_option maxHeartbeats 8000000 in
set_option maxRecDepth 100000 in
theorem rpeek_calls (h : Hp o w (refT B m :: l)) (hw : Below w.heap.size w wb) (k : ByteArray) (now : Int) (hn : m.K.length ≤ 1000) (he : m.ev.length ≤ 100000) :
    Calls Tryz.prog 27 #[.pointer (some ⟨B, 0, none⟩), .string k, .int .i64 now] wb fun e w' => ∃ a c, e = .returned (.tuple #[itV a c (gotI k (endM k now m)), .bool (Ca.inK k (endM k now m).K)]) ∧ Hp o w' (roT (itemR a c (gotI k (endM k now m))) :: refT B (endM k now m) :: l) := by
  have h0 := (h.bel hw).cellsNew [.int .i64 0, .string ⟨#[]⟩, .slice none 0 0] 31
  have HH : Hid (Hp o (wb.alloc (.cells #[.int .i64 0, .string ⟨#[]⟩, .slice none 0 0] 31)) (cellsT wb.heap.size [.int .i64 0, .string ⟨#[]⟩, .slice none 0 0] :: refT B m :: l)) := Lib.hid h0
  have HD := Lib.hid (rdue_calls (HH.out.pull 1 rfl) (Below.refl _ _) k now hn he)
  have h1 := end_K (k := k) (now := now) hn
  have HGI : Hid (gotI k (endM k now m) = if Ca.inK k (endM k now m).K = true then (endM k now m).f k else zeroI) := Lib.hid rfl
  clear h hw h0 hn he
  generalize endM k now m = m1 at *
  go_enter Tryz.func27, Tryz.ntmps27
  go_wp2_with fail
  generalize wb.alloc (.cells #[.int .i64 0, .string ⟨#[]⟩, .slice none 0 0] 31) = W0 at *
  generalize wb.heap.size = B0 at *
  refine HD.out.mono ?_; rintro en w1 ⟨cv, C, ev, r, rfl, hr, hI, h2⟩
  have hrk := idx_in hr hI
  have hcl : C.length ≤ 1000 := by rw [hr.len]; exact h1
  have HR := Lib.hid hr
  obtain ⟨a, cc, rfl, -, hcc, ha⟩ := (h2.pull 1 rfl).rowForm
  clear HD HH
  cases hin : Ca.inK k m1.K with
  | false =>
    have hr0 : r < 0 := by rw [hin] at hrk; simp at hrk; omega
    have HGV : Hid (gotI k m1 = zeroI) := Lib.hid (by rw [HGI.out, hin, if_neg (by decide)])
    have HIN := Lib.hid hin
    have H3 : Hid (Hp o w1 (cellsT B0 [.int .i64 0, .string ⟨#[]⟩, .slice none 0 0] :: refT B m1 :: l)) := Lib.hid ((ref_shut hr rfl rfl h2).pull 1 rfl)
    have b0 := H3.out.cell 0 rfl
    have b1 := H3.out.cell 1 rfl
    have b2 := H3.out.cell 2 rfl
    have z0 := H3.out.free 0 rfl
    have z1 := H3.out.free 1 rfl
    have z2 := H3.out.free 2 rfl
    have H4 := Lib.hid (((H3.out.cellSet 0 (.int .i64 0) rfl).cellSet 1 (.string ⟨#[]⟩) rfl).cellSet 2 (.slice none 0 0) rfl)
    clear hin h2 HGI H3 hr hI hrk ha
    go_wp2_with fail
    generalize ((w1.setCell ⟨B0, 0, none⟩ (.int .i64 0)).setCell ⟨B0, 1, none⟩ (.string ⟨#[]⟩)).setCell ⟨B0, 2, none⟩ (.slice none 0 0) = W3 at *
    clear b0 b1 b2 z0 z1 z2
    have b0 := H4.out.cell 0 rfl
    have b1 := H4.out.cell 1 rfl
    have b2 := H4.out.cell 2 rfl
    refine bodyPost_ret (v := .tuple #[.agg #[.int .i64 0, .string ⟨#[]⟩, .slice none 0 0], .bool false]) ?_ rfl ⟨none, 0, ?_, ?_⟩
    · rw [results_cell_tmp rfl]
      simp [asAddr, Result.andThen, go_sem, b0, b1, b2]
    · rw [HGV.out, HIN.out]; rfl
    · rw [HGV.out]
      exact ro_new H4.out.drop _ fun R => ⟨Nat.le_refl _, by decide, fun hp => absurd hp (by decide)⟩
  | true =>
    obtain ⟨j, hj, rfl, hk⟩ := idx_j hI (hrk.2 hin)
    obtain ⟨gb, rfl⟩ := ha (by omega)
    have hit : C[j].i = m1.f k := by rw [← hk]; exact (hr.it _ (List.getElem_mem hj)).1
    have HGV : Hid (gotI k m1 = C[j].i) := Lib.hid (by rw [HGI.out, hin, if_pos rfl, hit])
    have HIN := Lib.hid hin
    obtain ⟨d0, d1, d2, d3, d4⟩ := cell5 (h2.pull 1 rfl) hj
    have c0 := h2.cell 0 rfl
    have hjc : (j : Int) < (C.length : Int) := by omega
    have h3 := (ref_shut hr rfl rfl ((rows_item (h2.pull 3 rfl) hj).drop.push 3)).pull 1 rfl
    have h4 := rows_item (h2.pull 3 rfl) hj
    have h5 := (h4.pull 1 rfl).push 4
    have h6 := h5.push 5
    have H4 : Hid (Hp o w1 (cellsT B0 [.int .i64 0, .string ⟨#[]⟩, .slice none 0 0] :: roT (itemR C[j].a C[j].c C[j].i) :: refT B m1 :: l)) := Lib.hid (by
      have g1 : Hp o w1 (roT (itemR C[j].a C[j].c C[j].i) :: roT (rowsC C) :: cellsT B [.slice (some ⟨gb, 0, none⟩) C.length cc, .int .i64 m1.b, ev] :: rowC (.slice (some ⟨gb, 0, none⟩) C.length cc) C :: evsT ev m1.ev :: cellsT B0 [.int .i64 0, .string ⟨#[]⟩, .slice none 0 0] :: l) := h4
      have g2 : Hp o w1 (cellsT B [.slice (some ⟨gb, 0, none⟩) C.length cc, .int .i64 m1.b, ev] :: rowC (.slice (some ⟨gb, 0, none⟩) C.length cc) C :: evsT ev m1.ev :: roT (rowsC C) :: roT (itemR C[j].a C[j].c C[j].i) :: cellsT B0 [.int .i64 0, .string ⟨#[]⟩, .slice none 0 0] :: l) := (g1.push 4).push 3
      exact (ref_shut hr rfl rfl g2).push 2 |>.pull 1 rfl)
    clear h2 h3 h4 h5 h6 hr hI hrk hin HGI ha hit hk d0 d4
    generalize C[j].i = it at *
    generalize C[j].a = a3 at *
    generalize C[j].c = c3 at *
    have b0 := H4.out.cell 0 rfl
    have b1 := H4.out.cell 1 rfl
    have b2 := H4.out.cell 2 rfl
    have z0 := H4.out.free 0 rfl
    have z1 := H4.out.free 1 rfl
    have z2 := H4.out.free 2 rfl
    have H5 := Lib.hid (((H4.out.cellSet 0 (.int .i64 it.k) rfl).cellSet 1 (.string it.t) rfl).cellSet 2 (.slice a3 it.l.length c3) rfl)
    clear H4
    go_wp2_with fail
    generalize ((w1.setCell ⟨B0, 0, none⟩ (.int .i64 it.k)).setCell ⟨B0, 1, none⟩ (.string it.t)).setCell ⟨B0, 2, none⟩ (.slice a3 it.l.length c3) = W3 at *
    clear b0 b1 b2 z0 z1 z2
    have b0 := H5.out.cell 0 rfl
    have b1 := H5.out.cell 1 rfl
    have b2 := H5.out.cell 2 rfl
    refine bodyPost_ret (v := .tuple #[.agg #[.int .i64 it.k, .string it.t, .slice a3 it.l.length c3], .bool true]) ?_ rfl ⟨a3, c3, ?_, ?_⟩
    · rw [results_cell_tmp rfl]
      simp [asAddr, Result.andThen, go_sem, b0, b1, b2]
    · rw [HGV.out, HIN.out]; rfl
    · rw [HGV.out]
      exact H5.out.drop
end
end Go.Proofs.YtmjlhmohglbecaaGreatDoor.Sa
/- Layer 12, the checking package's Drop, Ttl, Expire, Persist. Conditions: its Store as it lies; bounds. -/
namespace Go.Proofs.YtmjlhmohglbecaaGreatDoor.Sa
set_option linter.unusedVariables false
set_option linter.unusedSimpArgs false
open Go.ChangeShapes Go.WideShapes Go.ChangeAt Go.RowKit
open Sp (Th Hp Stays All Ro roT rowT cellsT exT puT star)
section
variable {o w w' wb : World} {l : List Th} {B : Nat} {m : Md}
theorem end_evl {k : ByteArray} {now : Int} {m : Md} (he : m.ev.length ≤ 10000) : (endM k now m).ev.length ≤ 10001 := Nat.le_trans (end_ev k now m) (by omega)
set_option maxHeartbeats 8000000 in
set_option maxRecDepth 100000 in
theorem rdrop_calls (h : Hp o w (refT B m :: l)) (hw : Below w.heap.size w wb) (k : ByteArray) (now : Int) (hn : m.K.length ≤ 1000) (he : m.ev.length ≤ 10000) :
    Calls Tryz.prog 30 #[.pointer (some ⟨B, 0, none⟩), .string k, .int .i64 now] wb fun e w' => e = .returned (.bool (Ca.inK k (endM k now m).K)) ∧ Hp o w' (refT B (dropM k now m) :: l) := by
  have HD := Lib.hid (rdue_calls (h.bel hw) (Below.refl _ _) k now hn (by omega))
  have h1 := end_K (k := k) (now := now) hn
  have h2 := end_evl (k := k) (now := now) he
  have HM : Hid (dropM k now m = goneM k 2 (endM k now m)) := Lib.hid rfl
  clear h hw
  generalize endM k now m = m1 at *
  generalize dropM k now m = m2 at *
  go_enter Tryz.func30, Tryz.ntmps30
  go_wp2_with fail
  refine HD.out.mono ?_; rintro en w1 ⟨cv, C, ev, r, rfl, hr, hI, h3⟩
  have HG := Lib.hid (rgone_calls (ref_shut hr rfl rfl h3) (Below.refl _ _) k 2 (by decide) (by decide) h1 (by omega))
  clear HD hr hI h3
  go_wp2_with fail
  refine HG.out.mono ?_; rintro en w2 ⟨rfl, h4⟩
  rw [← HM.out] at h4
  have H4 := Lib.hid h4
  clear HG h4
  go_wp2_with fail
  go_ret
  exact ⟨rfl, H4.out⟩
theorem ttl_when {k : ByteArray} {now : Int} {m : Md} (hp : Pre m) (hin : Ca.inK k m.K = true) : ttlN k now m = if whenM m k < 0 then -1 else whenM m k - now := by
  unfold ttlN whenM
  rw [if_pos hin]
  cases hd : Ea.inD k m.S with
  | false => simp
  | true =>
    have := (hp.due_rng hd).1
    simp only [if_true]
    rw [if_neg (by omega)]
theorem ttl_out {k : ByteArray} {now : Int} {m : Md} (hin : Ca.inK k m.K = false) : ttlN k now m = -2 := by
  unfold ttlN; rw [hin]; rfl
theorem when_hi {k : ByteArray} {m : Md} (hp : Pre m) : -1 ≤ whenM m k ∧ whenM m k ≤ 4611686018427387904 := by
  unfold whenM
  cases hd : Ea.inD k m.S with
  | false => simp
  | true => have := hp.due_rng hd; simp only [if_true]; omega
set_option maxHeartbeats 8000000 in
set_option maxRecDepth 100000 in
theorem rttl_calls (h : Hp o w (refT B m :: l)) (hw : Below w.heap.size w wb) (k : ByteArray) (now : Int) (hn0 : 0 ≤ now) (hn1 : now ≤ 4611686018427387904) (hn : m.K.length ≤ 1000) (he : m.ev.length ≤ 10000) :
    Calls Tryz.prog 36 #[.pointer (some ⟨B, 0, none⟩), .string k, .int .i64 now] wb fun e w' => e = .returned (.int .i64 (ttlN k now (endM k now m))) ∧ Hp o w' (refT B (endM k now m) :: l) := by
  have HD := Lib.hid (rdue_calls (h.bel hw) (Below.refl _ _) k now hn (by omega))
  have h1 := end_K (k := k) (now := now) hn
  clear h hw
  generalize endM k now m = m1 at *
  go_enter Tryz.func36, Tryz.ntmps36
  go_wp2_with fail
  refine HD.out.mono ?_; rintro en w1 ⟨cv, C, ev, r, rfl, hr, hI, h2⟩
  have hrk := idx_in hr hI
  have hcl : C.length ≤ 1000 := by rw [hr.len]; exact h1
  obtain ⟨a, cc, rfl, -, hcc, ha⟩ := (h2.pull 1 rfl).rowForm
  have HZ := Lib.hid (ref_shut hr rfl rfl h2)
  clear HD
  cases hin : Ca.inK k m1.K with
  | false =>
    have hr0 : r < 0 := by rw [hin] at hrk; simp at hrk; omega
    have HV := Lib.hid (ttl_out (now := now) hin)
    clear hin h2 hr hI hrk ha
    go_wp2_with fail
    go_ret
    exact ⟨by rw [HV.out]; rfl, HZ.out⟩
  | true =>
    obtain ⟨j, hj, rfl, hk⟩ := idx_j hI (hrk.2 hin)
    obtain ⟨gb, rfl⟩ := ha (by omega)
    have ht : C[j].t = whenM m1 k := by rw [← hk]; exact (hr.it _ (List.getElem_mem hj)).2
    have hv := ttl_when (now := now) hr.pre hin
    have hhi := when_hi (k := k) hr.pre
    rw [← ht] at hv hhi
    have HV := Lib.hid hv
    obtain ⟨-, -, -, -, d4⟩ := cell5 (h2.pull 1 rfl) hj
    have c0 := h2.cell 0 rfl
    have hjc : (j : Int) < (C.length : Int) := by omega
    clear hin h2 hr hI hrk ha hv hk ht
    generalize C[j].t = t at *
    by_cases htn : t < 0
    · have HV2 : Hid (ttlN k now m1 = -1) := Lib.hid (by rw [HV.out, if_pos htn])
      go_wp2_with fail
      go_ret
      exact ⟨by rw [HV2.out]; rfl, HZ.out⟩
    · have HV2 : Hid (ttlN k now m1 = t - now) := Lib.hid (by rw [HV.out, if_neg htn])
      go_wp2_with fail
      go_ret
      exact ⟨by rw [HV2.out]; go_num, HZ.out⟩
/-- A cell's end, written. -/
theorem row_setT {C : List Cw} {g c : Nat} (h : Hp o w (rowC (.slice (some ⟨g, 0, none⟩) C.length c) C :: l)) {j : Nat} (hj : j < C.length) (t : Int) :
    Hp o (w.setCell ⟨g, j * 5 + 4, none⟩ (.int .i64 t)) (rowC (.slice (some ⟨g, 0, none⟩) (C.set j (C[j].wt t)).length c) (C.set j (C[j].wt t)) :: l) := by
  have h1 := Hp.rowSet h (j * 5 + 4) (.int .i64 t)
  rw [← cellsC_set C j hj t] at h1
  unfold rowC
  rw [List.length_set]
  exact h1
theorem rows_setT {C : List Cw} (h : Hp o w (roT (rowsC C) :: l)) {j : Nat} (hj : j < C.length) (t : Int) : Hp o w (roT (rowsC (C.set j (C[j].wt t))) :: l) := ro_map h fun {R} h p hp => by
  exact set_it (P := fun p => (itemR p.a p.c p.i).P R w) (q := C[j].wt t) hj (show (itemR C[j].a C[j].c C[j].i).P R w from h _ (List.getElem_mem hj)) (fun i hi _ => h _ (List.getElem_mem hi)) p hp
set_option maxHeartbeats 8000000 in
set_option maxRecDepth 100000 in
theorem rpersist_calls (h : Hp o w (refT B m :: l)) (hw : Below w.heap.size w wb) (hok : Ok m) (k : ByteArray) (now : Int) (hn : m.K.length ≤ 1000) (he : m.ev.length ≤ 10000) :
    Calls Tryz.prog 34 #[.pointer (some ⟨B, 0, none⟩), .string k, .int .i64 now] wb fun e w' => e = .returned (.bool (Ea.inD k (endM k now m).S)) ∧ Hp o w' (refT B (persistM k now m) :: l) := by
  have HD := Lib.hid (rdue_calls (h.bel hw) (Below.refl _ _) k now hn (by omega))
  have h1 := end_K (k := k) (now := now) hn
  have h2 := end_evl (k := k) (now := now) he
  have HO := Lib.hid (hok.end_ k now)
  have HM : Hid (persistM k now m = if Ea.inD k (endM k now m).S = true then undueM k (endM k now m) else endM k now m) := Lib.hid rfl
  clear h hw hok
  generalize endM k now m = m1 at *
  generalize persistM k now m = m2 at *
  go_enter Tryz.func34, Tryz.ntmps34
  go_wp2_with fail
  refine HD.out.mono ?_; rintro en w1 ⟨cv, C, ev, r, rfl, hr, hI, h3⟩
  have hrk := idx_in hr hI
  have hcl : C.length ≤ 1000 := by rw [hr.len]; exact h1
  obtain ⟨a, cc, rfl, -, hcc, ha⟩ := (h3.pull 1 rfl).rowForm
  clear HD
  cases hd : Ea.inD k m1.S with
  | false =>
    have HDD := Lib.hid hd
    have HZ : Hid (Hp o w1 (refT B m2 :: l)) := Lib.hid (by rw [HM.out, hd]; exact ref_shut hr rfl rfl h3)
    have hw1 : whenM m1 k = -1 := by unfold whenM; rw [hd]; rfl
    cases hin : Ca.inK k m1.K with
    | false =>
      have hr0 : r < 0 := by rw [hin] at hrk; simp at hrk; omega
      clear hin hd h3 hr hI hrk ha
      go_wp2_with fail
      go_ret
      exact ⟨by rw [HDD.out]; rfl, HZ.out⟩
    | true =>
      obtain ⟨j, hj, rfl, hk⟩ := idx_j hI (hrk.2 hin)
      obtain ⟨gb, rfl⟩ := ha (by omega)
      have ht : C[j].t = -1 := by rw [← hw1, ← hk]; exact (hr.it _ (List.getElem_mem hj)).2
      obtain ⟨-, -, -, -, d4⟩ := cell5 (h3.pull 1 rfl) hj
      rw [ht] at d4
      have c0 := h3.cell 0 rfl
      have hjc : (j : Int) < (C.length : Int) := by omega
      clear hin hd h3 hr hI hrk ha hk ht hw1
      go_wp2_with fail
      go_ret
      exact ⟨by rw [HDD.out]; rfl, HZ.out⟩
  | true =>
    have hin : Ca.inK k m1.K = true := Ca.inK_iff.2 (hr.pre.due_in hd)
    obtain ⟨j, hj, rfl, hk⟩ := idx_j hI (hrk.2 hin)
    obtain ⟨gb, rfl⟩ := ha (by omega)
    have htn : ¬ C[j].t < 0 := by
      have e : C[j].t = whenM m1 k := by rw [← hk]; exact (hr.it _ (List.getElem_mem hj)).2
      have := (hr.pre.due_rng hd).1
      rw [e]; unfold whenM; rw [hd]; simp only [if_true]; omega
    have HZ : Hid (RepC (C.set j (C[j].wt (-1))) m2) := Lib.hid (by rw [HM.out, hd, if_pos rfl, ← hk]; exact hr.undue HO.out hj)
    have HV : Hid (m2.b = m1.b ∧ m2.ev = m1.ev ++ [(1, k)]) := Lib.hid (by rw [HM.out, hd, if_pos rfl]; exact ⟨rfl, rfl⟩)
    obtain ⟨-, -, -, -, d4⟩ := cell5 (h3.pull 1 rfl) hj
    have c0 := h3.cell 0 rfl
    have f4 := (h3.pull 1 rfl).rowFrozen (j * 5 + 4)
    have hjc : (j : Int) < (C.length : Int) := by omega
    have h4 := row_setT (h3.pull 1 rfl) hj (-1)
    have h5 := rows_setT (h4.pull 3 rfl) hj (-1)
    have H5 : Hid (Hp o (w1.setCell ⟨gb, j * 5 + 4, none⟩ (.int .i64 (-1))) (evsT ev m1.ev :: cellsT B [.slice (some ⟨gb, 0, none⟩) C.length cc, .int .i64 m1.b, ev] :: rowC (.slice (some ⟨gb, 0, none⟩) (C.set j (C[j].wt (-1))).length cc) (C.set j (C[j].wt (-1))) :: roT (rowsC (C.set j (C[j].wt (-1)))) :: l)) := Lib.hid (((h5.pull 1 rfl).pull 2 rfl).pull 3 rfl)
    rw [List.length_set] at H5
    have HDD := Lib.hid hd
    have HLD : Hid ((C.set j (C[j].wt (-1))).length = C.length) := Lib.hid (List.length_set ..)
    clear hin hd h3 hr hI hrk ha hk h4 h5
    generalize C.set j (C[j].wt (-1)) = D at *
    generalize C[j].t = t at *
    go_upto_region 5 with fail
    generalize w1.setCell ⟨gb, j * 5 + 4, none⟩ (.int .i64 (-1)) = W1 at *
    clear d4 f4 c0
    have e2 := (H5.out.pull 1 rfl).cell 2 rfl
    go_wp2_with (at_builtin; refine evPush H5.out rfl _ _ rfl rfl 1 k rfl (by omega) ?_)
    intro a3 c3 w3 h3
    have H3 : Hid (Hp o w3 (cellsT B [.slice (some ⟨gb, 0, none⟩) C.length cc, .int .i64 m1.b, ev] :: evsT (.slice a3 (m1.ev.length + 1) c3) (m1.ev ++ [(1, k)]) :: rowC (.slice (some ⟨gb, 0, none⟩) C.length cc) D :: roT (rowsC D) :: l)) := Lib.hid (h3.pull 1 rfl)
    have g2 := H3.out.cell 2 rfl
    have f2 := H3.out.free 2 rfl
    clear h3 H5 e2
    go_wp2_with fail
    go_ret
    refine ⟨by rw [HDD.out]; rfl, ?_⟩
    have h4 := (H3.out.cellSet 2 (.slice a3 (m1.ev.length + 1) c3) rfl).pull 2 rfl
    exact ref_shut HZ.out HV.out.1 HV.out.2 (h4.pull 1 rfl)
end
end Go.Proofs.YtmjlhmohglbecaaGreatDoor.Sa
/- Layer 12, the checking package's Expire, Flush, Tell, New. Conditions: its Store as it lies; bounds. -/
namespace Go.Proofs.YtmjlhmohglbecaaGreatDoor.Sa
set_option linter.unusedVariables false
set_option linter.unusedSimpArgs false
open Go.ChangeShapes Go.WideShapes Go.ChangeAt Go.RowKit
open Sp (Th Hp Stays All Ro roT rowT cellsT exT puT star)
section
variable {o w w' wb : World} {l : List Th} {B : Nat} {m : Md}
set_option maxHeartbeats 8000000 in
set_option maxRecDepth 100000 in
theorem rexpire_calls (h : Hp o w (refT B m :: l)) (hw : Below w.heap.size w wb) (hok : Ok m) (k : ByteArray) (when now : Int) (hn0 : 0 ≤ now) (hn : m.K.length ≤ 1000) (he : m.ev.length ≤ 10000) :
    Calls Tryz.prog 32 #[.pointer (some ⟨B, 0, none⟩), .string k, .int .i64 when, .int .i64 now] wb fun e w' => e = .returned (.bool (Ca.inK k (endM k now m).K)) ∧ Hp o w' (refT B (expireM k when now m) :: l) := by
  have HD := Lib.hid (rdue_calls (h.bel hw) (Below.refl _ _) k now hn (by omega))
  have h1 := end_K (k := k) (now := now) hn
  have h2 := end_evl (k := k) (now := now) he
  have HO := Lib.hid (hok.end_ k now)
  have HM : Hid (expireM k when now m = if when ≤ now ∨ when < 0 then goneM k 2 (endM k now m) else if Ca.inK k (endM k now m).K = true then dueM k (min when 4611686018427387904) (endM k now m) else endM k now m) := Lib.hid rfl
  clear h hw hok
  generalize endM k now m = m1 at *
  generalize expireM k when now m = m2 at *
  go_enter Tryz.func32, Tryz.ntmps32
  go_wp2_with fail
  refine HD.out.mono ?_; rintro en w1 ⟨cv, C, ev, r, rfl, hr, hI, h3⟩
  have hrk := idx_in hr hI
  have hcl : C.length ≤ 1000 := by rw [hr.len]; exact h1
  obtain ⟨a, cc, rfl, -, hcc, ha⟩ := (h3.pull 1 rfl).rowForm
  clear HD
  cases hin : Ca.inK k m1.K with
  | false =>
    have hr0 : r < 0 := by rw [hin] at hrk; simp at hrk; omega
    have HIN := Lib.hid hin
    have HZ : Hid (Hp o w1 (refT B m2 :: l)) := Lib.hid (by
      rw [HM.out, hin, goneM_out hin]
      simp only [Bool.false_eq_true, if_false, ite_self]
      exact ref_shut hr rfl rfl h3)
    clear hin h3 hr hI hrk ha
    go_wp2_with fail
    go_ret
    exact ⟨by rw [HIN.out]; rfl, HZ.out⟩
  | true =>
    have HIN := Lib.hid hin
    obtain ⟨j, hj, rfl, hk⟩ := idx_j hI (hrk.2 hin)
    by_cases hwn : when ≤ now
    · have HE : Hid (m2 = goneM k 2 m1) := Lib.hid (by rw [HM.out, if_pos (.inl hwn)])
      have HG := Lib.hid (rgone_calls (ref_shut hr rfl rfl h3) (Below.refl _ _) k 2 (by decide) (by decide) h1 (by omega))
      rw [HIN.out, ← HE.out] at HG
      clear hin h3 hr hI hrk ha hk
      go_wp2_with fail
      refine HG.out.mono ?_; rintro en w2 ⟨rfl, h4⟩
      have H4 := Lib.hid h4
      clear HG h4
      go_wp2_with fail
      go_ret
      exact ⟨by rw [HIN.out]; rfl, H4.out⟩
    · obtain ⟨gb, rfl⟩ := ha (by omega)
      obtain ⟨t, ht⟩ : ∃ t, min when 4611686018427387904 = t := ⟨_, rfl⟩
      have HE : Hid (m2 = dueM k t m1) := Lib.hid (by rw [HM.out, if_neg (by omega), hin, if_pos rfl, ht])
      have HZ : Hid (RepC (C.set j (C[j].wt t)) m2) := Lib.hid (by rw [HE.out, ← hk]; exact hr.due HO.out hj (by omega) (by omega))
      have HV : Hid (m2.b = m1.b ∧ m2.ev = m1.ev ++ [(1, k)]) := Lib.hid (by rw [HE.out]; exact ⟨rfl, rfl⟩)
      have c0 := h3.cell 0 rfl
      have f4 := (h3.pull 1 rfl).rowFrozen (j * 5 + 4)
      obtain ⟨-, -, -, -, d4⟩ := cell5 (h3.pull 1 rfl) hj
      have hjc : (j : Int) < (C.length : Int) := by omega
      have h4 := row_setT (h3.pull 1 rfl) hj t
      have h5 := rows_setT (h4.pull 3 rfl) hj t
      have H5 : Hid (Hp o (w1.setCell ⟨gb, j * 5 + 4, none⟩ (.int .i64 t)) (evsT ev m1.ev :: cellsT B [.slice (some ⟨gb, 0, none⟩) C.length cc, .int .i64 m1.b, ev] :: rowC (.slice (some ⟨gb, 0, none⟩) (C.set j (C[j].wt t)).length cc) (C.set j (C[j].wt t)) :: roT (rowsC (C.set j (C[j].wt t))) :: l)) := Lib.hid (((h5.pull 1 rfl).pull 2 rfl).pull 3 rfl)
      rw [List.length_set] at H5
      clear hin h3 hr hI hrk ha hk h4 h5
      generalize C.set j (C[j].wt t) = D at *
      generalize C[j].t = t0 at *
      have hnw : now < when := by omega
      clear hwn
      have HT := Lib.hid ht
      have hten : (t = when ∧ when ≤ 4611686018427387904) ∨ (t = 4611686018427387904 ∧ 4611686018427387904 < when) := by omega
      clear ht
      rcases hten with ⟨rfl, hle⟩ | ⟨rfl, hlt⟩
      all_goals go_upto_region 9 with fail
      all_goals generalize w1.setCell ⟨gb, j * 5 + 4, none⟩ _ = W1 at *
      all_goals clear d4 f4 c0
      all_goals have e2 := (H5.out.pull 1 rfl).cell 2 rfl
      all_goals go_wp2_with (at_builtin; refine evPush H5.out rfl _ _ rfl rfl 1 k rfl (by omega) ?_)
      all_goals intro a3 c3 w3 h3
      all_goals have H3 : Hid (Hp o w3 (cellsT B [.slice (some ⟨gb, 0, none⟩) C.length cc, .int .i64 m1.b, ev] :: evsT (.slice a3 (m1.ev.length + 1) c3) (m1.ev ++ [(1, k)]) :: rowC (.slice (some ⟨gb, 0, none⟩) C.length cc) D :: roT (rowsC D) :: l)) := Lib.hid (h3.pull 1 rfl)
      all_goals have g2 := H3.out.cell 2 rfl
      all_goals have f2 := H3.out.free 2 rfl
      all_goals clear h3 H5 e2
      all_goals go_wp2_with fail
      all_goals go_ret
      all_goals refine ⟨by rw [HIN.out]; rfl, ?_⟩
      all_goals have h4 := (H3.out.cellSet 2 (.slice a3 (m1.ev.length + 1) c3) rfl).pull 2 rfl
      all_goals exact ref_shut HZ.out HV.out.1 HV.out.2 (h4.pull 1 rfl)
set_option maxHeartbeats 8000000 in
set_option maxRecDepth 100000 in
theorem rflush_calls (h : Hp o w (refT B m :: l)) (hw : Below w.heap.size w wb) (hok : Ok m) (he : m.ev.length ≤ 10000) :
    Calls Tryz.prog 40 #[.pointer (some ⟨B, 0, none⟩)] wb fun e w' => e = .returned (.tuple #[]) ∧ Hp o w' (refT B (flushM m) :: l) := by
  obtain ⟨cv, C, ev, hr, h⟩ := ref_open (h.bel hw)
  have c0 := h.cell 0 rfl
  have f0 := h.free 0 rfl
  have HZ := Lib.hid (hr.flush hok)
  have h1 := h.cellSet 0 (.slice none 0 0) rfl
  have h2 := rows_sub (D := []) (h1.pull 3 rfl) fun p hp => (nomatch hp)
  have h3 : Hp o (wb.setCell ⟨B, 0, none⟩ (.slice none 0 0)) (rowC cv C :: cellsT B [.slice none 0 0, .int .i64 m.b, ev] :: evsT ev m.ev :: roT (rowsC []) :: l) := (((h2.pull 3 rfl).pull 2 rfl).pull 3 rfl)
  have h4 := h3.drop
  have H4 : Hid (Hp o (wb.setCell ⟨B, 0, none⟩ (.slice none 0 0)) (evsT ev m.ev :: cellsT B [.slice none 0 0, .int .i64 m.b, ev] :: rowC (.slice none 0 0) [] :: roT (rowsC []) :: l)) := Lib.hid (by
    have g1 := h4.rowNil 87 5
    exact (g1.pull 1 rfl).pull 2 rfl)
  clear h h1 h2 h3 h4 hw hr
  go_enter Tryz.func40, Tryz.ntmps40
  go_upto_region 1 with fail
  generalize wb.setCell ⟨B, 0, none⟩ (.slice none 0 0) = W1 at *
  clear c0 f0
  have e2 := (H4.out.pull 1 rfl).cell 2 rfl
  go_wp2_with (at_builtin; refine evPush H4.out rfl _ _ rfl rfl 5 ⟨#[]⟩ rfl (by omega) ?_)
  intro a3 c3 w3 h3
  have H3 : Hid (Hp o w3 (cellsT B [.slice none 0 0, .int .i64 m.b, ev] :: evsT (.slice a3 (m.ev.length + 1) c3) (m.ev ++ [(5, ⟨#[]⟩)]) :: rowC (.slice none 0 0) [] :: roT (rowsC []) :: l)) := Lib.hid (h3.pull 1 rfl)
  have g2 := H3.out.cell 2 rfl
  have f2 := H3.out.free 2 rfl
  clear h3 H4 e2
  go_wp2_with fail
  go_end0
  refine ⟨rfl, ?_⟩
  have h4 := (H3.out.cellSet 2 (.slice a3 (m.ev.length + 1) c3) rfl).pull 2 rfl
  exact ref_shut HZ.out rfl rfl (h4.pull 1 rfl)
set_option maxHeartbeats 8000000 in
set_option maxRecDepth 100000 in
theorem rtell_calls (h : Hp o w (refT B m :: l)) (hw : Below w.heap.size w wb) :
    Calls Tryz.prog 16 #[.pointer (some ⟨B, 0, none⟩)] wb fun e w' => ∃ v, e = .returned v ∧ Hp o w' (evsT v m.ev :: refT B (toldM m) :: l) := by
  obtain ⟨cv, C, ev, hr, h⟩ := ref_open (h.bel hw)
  obtain ⟨a, cc, rfl, -, hcc, -⟩ := (h.pull 2 rfl).rowForm
  have c2 := h.cell 2 rfl
  have f2 := h.free 2 rfl
  have HZ := Lib.hid hr.told
  have H1 := Lib.hid (h.cellSet 2 (.slice none 0 0) rfl)
  clear h hr hw
  go_enter Tryz.func16, Tryz.ntmps16
  go_wp2_with fail
  go_ret
  refine ⟨_, rfl, ?_⟩
  have h2 := (H1.out.pull 2 rfl).rowNil 62 2
  have h3 : Hp o (wb.setCell ⟨B, 2, none⟩ (.slice none 0 0)) (evsT (.slice none 0 0) [] :: evsT (.slice a m.ev.length cc) m.ev :: cellsT B [cv, .int .i64 m.b, .slice none 0 0] :: rowC cv C :: roT (rowsC C) :: l) := h2
  have h4 : Hp o (wb.setCell ⟨B, 2, none⟩ (.slice none 0 0)) (cellsT B [cv, .int .i64 m.b, .slice none 0 0] :: rowC cv C :: evsT (.slice none 0 0) [] :: roT (rowsC C) :: evsT (.slice a m.ev.length cc) m.ev :: l) := ((((h3.pull 4 rfl).pull 1 rfl).pull 4 rfl).pull 4 rfl)
  exact (ref_shut (m := toldM m) HZ.out rfl rfl h4).pull 1 rfl
set_option maxHeartbeats 8000000 in
set_option maxRecDepth 100000 in
theorem rnew_calls (h : Hp o w l) (hw : Below w.heap.size w wb) (b : Int) :
    Calls Tryz.prog 9 #[.int .i64 b] wb fun e w' => ∃ B, e = .returned (.pointer (some ⟨B, 0, none⟩)) ∧ Hp o w' (refT B (newM b) :: l) := by
  have HH := Lib.hid (h.bel hw)
  obtain ⟨c, hc⟩ : ∃ c, budOf b = c := ⟨_, rfl⟩
  have HC := Lib.hid hc
  have H1 := Lib.hid (HH.out.cellsNew [.slice none 0 0, .int .i64 c, .slice none 0 0] 46)
  have hten : (b < 0 ∧ c = 0) ∨ (0 ≤ b ∧ b ≤ 1000000000000 ∧ c = b) ∨ (1000000000000 < b ∧ c = 1000000000000) := by unfold budOf at hc; omega
  clear h hw hc
  rcases hten with ⟨h0, rfl⟩ | ⟨h0, h2, rfl⟩ | ⟨h0, rfl⟩
  all_goals go_enter Tryz.func9, Tryz.ntmps9
  all_goals go_wp2_with fail
  all_goals go_ret
  all_goals refine ⟨_, rfl, ?_⟩
  all_goals have h3 := ((H1.out.rowNil 62 2).rowNil 87 5)
  all_goals have h4 := ro_new h3 (rowsC []) fun R p hp => (nomatch hp)
  all_goals exact ref_shut (RepC.new _) HC.out rfl (((h4.pull 2 rfl).pull 2 rfl |>.pull 3 rfl))
end
end Go.Proofs.YtmjlhmohglbecaaGreatDoor.Sa
/- Layer 12, the checking package's Get. Conditions: its Store as it lies; bounds. -/
namespace Go.Proofs.YtmjlhmohglbecaaGreatDoor.Sa
set_option linter.unusedVariables false
set_option linter.unusedSimpArgs false
open Go.ChangeShapes Go.WideShapes Go.ChangeAt Go.RowKit
open Sp (Th Hp Stays All Ro roT rowT cellsT exT puT star)
section
variable {o w w' wb : World} {l : List Th} {B : Nat} {m : Md}
theorem rowC_push {v : Value} {D : List Cw} {p : Cw} (h : Hp o w (rowT 87 5 v (D.length + 1) (cellsC D ++ [.string p.k, .int .i64 p.i.k, .string p.i.t, .slice p.a p.i.l.length p.c, .int .i64 p.t]) :: l)) : Hp o w (rowC v (D ++ [p]) :: l) := by
  unfold rowC
  rw [List.length_append, cellsC_app]
  exact h
theorem dropC_len (k : ByteArray) (C : List Cw) : (dropC k C).length ≤ C.length := List.length_filter_le _ _
theorem getM_in {k : ByteArray} {m : Md} (h : Ca.inK k m.K = true) : getM k m = { m with K := Ca.touchK k m.K } := by unfold getM; rw [if_pos h]
theorem getM_out {k : ByteArray} {m : Md} (h : Ca.inK k m.K = false) : getM k m = m := by unfold getM; rw [h]; rfl
set_option maxHeartbeats 16000000 in
set_option maxRecDepth 100000 in
theorem rget_calls (h : Hp o w (refT B m :: l)) (hw : Below w.heap.size w wb) (k : ByteArray) (now : Int) (hn : m.K.length ≤ 1000) (he : m.ev.length ≤ 100000) :
    Calls Tryz.prog 26 #[.pointer (some ⟨B, 0, none⟩), .string k, .int .i64 now] wb fun e w' => ∃ a c, e = .returned (.tuple #[itV a c (gotI k (endM k now m)), .bool (Ca.inK k (endM k now m).K)]) ∧ Hp o w' (roT (itemR a c (gotI k (endM k now m))) :: refT B (getM k (endM k now m)) :: l) := by
  have h0 := (h.bel hw).cellsNew [.int .i64 0, .string ⟨#[]⟩, .slice none 0 0] 31
  have HH : Hid (Hp o (wb.alloc (.cells #[.int .i64 0, .string ⟨#[]⟩, .slice none 0 0] 31)) (cellsT wb.heap.size [.int .i64 0, .string ⟨#[]⟩, .slice none 0 0] :: refT B m :: l)) := Lib.hid h0
  have HD := Lib.hid (rdue_calls (HH.out.pull 1 rfl) (Below.refl _ _) k now hn he)
  have h1 := end_K (k := k) (now := now) hn
  have HGI : Hid (gotI k (endM k now m) = if Ca.inK k (endM k now m).K = true then (endM k now m).f k else zeroI) := Lib.hid rfl
  clear h hw h0 hn he
  generalize endM k now m = m1 at *
  go_enter Tryz.func26, Tryz.ntmps26
  go_wp2_with fail
  generalize wb.alloc (.cells #[.int .i64 0, .string ⟨#[]⟩, .slice none 0 0] 31) = W0 at *
  generalize wb.heap.size = B0 at *
  refine HD.out.mono ?_; rintro en w1 ⟨cv, C, ev, r, rfl, hr, hI, h2⟩
  have hrk := idx_in hr hI
  have hcl : C.length ≤ 1000 := by rw [hr.len]; exact h1
  have HR := Lib.hid hr
  obtain ⟨a, cc, rfl, -, hcc, ha⟩ := (h2.pull 1 rfl).rowForm
  clear HD HH
  cases hin : Ca.inK k m1.K with
  | false =>
    have hr0 : r < 0 := by rw [hin] at hrk; simp at hrk; omega
    have HGV : Hid (gotI k m1 = zeroI) := Lib.hid (by rw [HGI.out, hin, if_neg (by decide)])
    have HIN := Lib.hid hin
    have H3 : Hid (Hp o w1 (cellsT B0 [.int .i64 0, .string ⟨#[]⟩, .slice none 0 0] :: refT B m1 :: l)) := Lib.hid ((ref_shut hr rfl rfl h2).pull 1 rfl)
    have b0 := H3.out.cell 0 rfl
    have b1 := H3.out.cell 1 rfl
    have b2 := H3.out.cell 2 rfl
    have z0 := H3.out.free 0 rfl
    have z1 := H3.out.free 1 rfl
    have z2 := H3.out.free 2 rfl
    have H4 := Lib.hid (((H3.out.cellSet 0 (.int .i64 0) rfl).cellSet 1 (.string ⟨#[]⟩) rfl).cellSet 2 (.slice none 0 0) rfl)
    clear hin h2 HGI H3 hr hI hrk ha
    go_wp2_with fail
    generalize ((w1.setCell ⟨B0, 0, none⟩ (.int .i64 0)).setCell ⟨B0, 1, none⟩ (.string ⟨#[]⟩)).setCell ⟨B0, 2, none⟩ (.slice none 0 0) = W3 at *
    clear b0 b1 b2 z0 z1 z2
    have b0 := H4.out.cell 0 rfl
    have b1 := H4.out.cell 1 rfl
    have b2 := H4.out.cell 2 rfl
    refine bodyPost_ret (v := .tuple #[.agg #[.int .i64 0, .string ⟨#[]⟩, .slice none 0 0], .bool false]) ?_ rfl ⟨none, 0, ?_, ?_⟩
    · rw [results_cell_tmp rfl]
      simp [asAddr, Result.andThen, go_sem, b0, b1, b2]
    · rw [HGV.out, HIN.out]; rfl
    · rw [HGV.out, getM_out HIN.out]
      exact ro_new H4.out.drop _ fun R => ⟨Nat.le_refl _, by decide, fun hp => absurd hp (by decide)⟩
  | true =>
    obtain ⟨j, hj, rfl, hk⟩ := idx_j hI (hrk.2 hin)
    obtain ⟨gb, rfl⟩ := ha (by omega)
    have hit : C[j].i = m1.f k := by rw [← hk]; exact (hr.it _ (List.getElem_mem hj)).1
    have HGV : Hid (gotI k m1 = C[j].i) := Lib.hid (by rw [HGI.out, hin, if_pos rfl, hit])
    have HIN := Lib.hid hin
    obtain ⟨d0, d1, d2, d3, d4⟩ := cell5 (h2.pull 1 rfl) hj
    have c0 := h2.cell 0 rfl
    have hjc : (j : Int) < (C.length : Int) := by omega
    have HZ : Hid (RepC (dropC k C ++ [C[j]]) (getM k m1)) := Lib.hid (by rw [getM_in hin, ← hk]; exact hr.touch hj)
    have HER : Hid (C.take j ++ C.drop (j + 1) = dropC k C) := Lib.hid (erase_drop hr.nd hj hk)
    have HMem : Hid (C[j] ∈ C) := Lib.hid (List.getElem_mem hj)
    have HGB : Hid ((getM k m1).b = m1.b ∧ (getM k m1).ev = m1.ev) := Lib.hid (by rw [getM_in hin]; exact ⟨rfl, rfl⟩)
    have h3 := h2.cellsNew [.string C[j].k, .int .i64 C[j].i.k, .string C[j].i.t, .slice C[j].a C[j].i.l.length C[j].c, .int .i64 C[j].t] 87
    have H3 : Hid (Hp o (w1.alloc (.cells #[.string C[j].k, .int .i64 C[j].i.k, .string C[j].i.t, .slice C[j].a C[j].i.l.length C[j].c, .int .i64 C[j].t] 87)) (cellsT B [.slice (some ⟨gb, 0, none⟩) C.length cc, .int .i64 m1.b, ev] :: rowC (.slice (some ⟨gb, 0, none⟩) C.length cc) C :: cellsT w1.heap.size [.string C[j].k, .int .i64 C[j].i.k, .string C[j].i.t, .slice C[j].a C[j].i.l.length C[j].c, .int .i64 C[j].t] :: evsT ev m1.ev :: roT (rowsC C) :: cellsT B0 [.int .i64 0, .string ⟨#[]⟩, .slice none 0 0] :: l)) := Lib.hid ((h3.pull 2 rfl).pull 2 rfl)
    have HW := Lib.hid (without_calls H3.out (Below.refl _ _) (by omega) hj)
    rw [HER.out] at HW
    clear h2 h3 hr hI hrk hin HGI ha hit hk HER HR
    generalize C[j] = p at *
    go_upto_region 5 with fail
    generalize w1.alloc (.cells #[.string p.k, .int .i64 p.i.k, .string p.i.t, .slice p.a p.i.l.length p.c, .int .i64 p.t] 87) = W2 at *
    generalize w1.heap.size = BX at *
    clear H3 d0 d1 d2 d3 d4 c0
    go_wp2_with fail
    refine HW.out.mono ?_; rintro en w3 ⟨rfl, cv3, h4⟩
    have hdl := dropC_len k C
    have H4 := Lib.hid h4
    obtain ⟨a3, c3, rfl, -, hc3, -⟩ := (H4.out.pull 1 rfl).rowForm
    clear h4 HW
    generalize hD : dropC k C = D at *
    have HDC : Hid (∀ q ∈ D ++ [p], q ∈ C) := Lib.hid (fun q hq => by
      rcases List.mem_append.1 hq with hq | hq
      · rw [← hD] at hq; exact (mem_dropC.1 hq).1
      · rw [List.mem_singleton.1 hq]; exact HMem.out)
    clear hD
    obtain ⟨i0, hi0, hz0, hz1, hz2⟩ := info_parts iCell
    obtain ⟨a7, c7, w7, hrun, h7, hst⟩ := Sp.rowRun (H4.out.pull 1 rfl) (wb := (w3.alloc (.cells #[.string p.k, .int .i64 p.i.k, .string p.i.t, .slice p.a p.i.l.length p.c, .int .i64 p.t] 87)).drew) (Below.drew (Sp.bbox _)) 44 44 i0 _ 72 Tryz.underlying44 hi0 hz0 hz1 hz2 rfl (by decide) ⟨w3.heap.size, 0, none⟩ 1 1 [.string p.k, .int .i64 p.i.k, .string p.i.t, .slice p.a p.i.l.length p.c, .int .i64 p.t] rfl
      (fun j u hj => by
        rw [Addr.add_lit, Nat.zero_add]
        show (w3.alloc _).cell? _ = _
        rw [World.cell?_alloc_new]
        simpa using hj)
      (fun u hu => by
        simp only [List.mem_cons, List.not_mem_nil, or_false] at hu
        rcases hu with rfl | rfl | rfl | rfl | rfl <;> rfl) (by unfold maxLen; omega) (by omega)
    have c0 := H4.out.cell 0 rfl
    have c0a : (w3.alloc (.cells #[.string p.k, .int .i64 p.i.k, .string p.i.t, .slice p.a p.i.l.length p.c, .int .i64 p.t] 87)).cell? ⟨B, 0, none⟩ = some (.slice a3 D.length c3) := (H4.out.bel (Sp.bbox _)).cell 0 rfl
    have x0 := (H4.out.pull 2 rfl).cell 0 rfl
    have x1 := (H4.out.pull 2 rfl).cell 1 rfl
    have x2 := (H4.out.pull 2 rfl).cell 2 rfl
    have x3 := (H4.out.pull 2 rfl).cell 3 rfl
    have x4 := (H4.out.pull 2 rfl).cell 4 rfl
    have h7 := rowC_push h7
    have H7 : Hid (Hp o w7 (cellsT B [.slice a3 D.length c3, .int .i64 m1.b, ev] :: rowC (.slice a7 (D.length + 1) c7) (D ++ [p]) :: cellsT BX [.string p.k, .int .i64 p.i.k, .string p.i.t, .slice p.a p.i.l.length p.c, .int .i64 p.t] :: evsT ev m1.ev :: roT (rowsC C) :: cellsT B0 [.int .i64 0, .string ⟨#[]⟩, .slice none 0 0] :: l)) := Lib.hid (h7.pull 1 rfl)
    have u0 := H7.out.cell 0 rfl
    have v0 := H7.out.free 0 rfl
    have H8 := Lib.hid (H7.out.cellSet 0 (.slice a7 (D.length + 1) c7) rfl)
    clear h7 hst hi0 hz0 hz1 hz2 H7 H4
    go_wp2_with fail
    go_region_law (
      refine Sp.step_app (o := ⟨some 34, _, _, _, _, _⟩) rfl (.tmp 31) (.tmp 33) rfl ?_ ?_ hrun ?_
      first | rfl | simp [Act.eval]
      first | rfl | simp [Act.eval])
    all_goals clear hrun c0 c0a x0 x1 x2 x3 x4 u0 v0
    all_goals generalize w7.setCell ⟨B, 0, none⟩ (.slice a7 (D.length + 1) c7) = W8 at *
    all_goals have x1 := (H8.out.pull 2 rfl).cell 1 rfl
    all_goals have x2 := (H8.out.pull 2 rfl).cell 2 rfl
    all_goals have x3 := (H8.out.pull 2 rfl).cell 3 rfl
    all_goals have b0 := (H8.out.pull 5 rfl).cell 0 rfl
    all_goals have b1 := (H8.out.pull 5 rfl).cell 1 rfl
    all_goals have b2 := (H8.out.pull 5 rfl).cell 2 rfl
    all_goals have z0 := (H8.out.pull 5 rfl).free 0 rfl
    all_goals have z1 := (H8.out.pull 5 rfl).free 1 rfl
    all_goals have z2 := (H8.out.pull 5 rfl).free 2 rfl
    all_goals have H9 := Lib.hid ((((H8.out.pull 5 rfl).cellSet 0 (.int .i64 p.i.k) rfl).cellSet 1 (.string p.i.t) rfl).cellSet 2 (.slice p.a p.i.l.length p.c) rfl)
    all_goals clear H8
    all_goals go_wp2_with fail
    all_goals generalize ((W8.setCell ⟨B0, 0, none⟩ (.int .i64 p.i.k)).setCell ⟨B0, 1, none⟩ (.string p.i.t)).setCell ⟨B0, 2, none⟩ (.slice p.a p.i.l.length p.c) = W3 at *
    all_goals clear b0 b1 b2 z0 z1 z2
    all_goals have b0 := H9.out.cell 0 rfl
    all_goals have b1 := H9.out.cell 1 rfl
    all_goals have b2 := H9.out.cell 2 rfl
    all_goals refine bodyPost_ret (v := .tuple #[.agg #[.int .i64 p.i.k, .string p.i.t, .slice p.a p.i.l.length p.c], .bool true]) ?_ rfl ⟨p.a, p.c, ?_, ?_⟩
    all_goals first
      | (rw [results_cell_tmp rfl]; simp [asAddr, Result.andThen, go_sem, b0, b1, b2]; done)
      | (rw [HGV.out, HIN.out]; rfl)
      | skip
    all_goals rw [HGV.out]
    all_goals have g1 := H9.out.drop
    all_goals have g2 := rows_sub (D := D ++ [p]) (g1.pull 4 rfl) HDC.out
    all_goals have g3 := rows_item (j := D.length) g2 (by simp)
    all_goals simp only [List.getElem_append_right (Nat.le_refl _), Nat.sub_self, List.getElem_cons_zero] at g3
    all_goals have g4 : Hp o W3 (evsT ev m1.ev :: cellsT BX [.string p.k, .int .i64 p.i.k, .string p.i.t, .slice p.a p.i.l.length p.c, .int .i64 p.t] :: roT (itemR p.a p.c p.i) :: roT (rowsC (D ++ [p])) :: cellsT B [.slice a7 (D.length + 1) c7, .int .i64 m1.b, ev] :: rowC (.slice a7 (D.length + 1) c7) (D ++ [p]) :: l) := (g3.pull 4 rfl).pull 5 rfl
    all_goals have g5 := ((g4.dropAt 1 rfl).pull 4 rfl).pull 4 rfl
    all_goals have g6 : Hp o W3 (cellsT B [.slice a7 (D.length + 1) c7, .int .i64 m1.b, ev] :: rowC (.slice a7 (D.length + 1) c7) (D ++ [p]) :: evsT ev m1.ev :: roT (rowsC (D ++ [p])) :: roT (itemR p.a p.c p.i) :: l) := ((((g5.pull 3 rfl).push 4).pull 0 rfl))
    all_goals exact (ref_shut HZ.out HGB.out.1 HGB.out.2 g6).pull 1 rfl
end
end Go.Proofs.YtmjlhmohglbecaaGreatDoor.Sa
/- Layer 12, the checking package's Put. Conditions: its Store as it lies; bounds. -/
namespace Go.Proofs.YtmjlhmohglbecaaGreatDoor.Sa
set_option linter.unusedVariables false
set_option linter.unusedSimpArgs false
open Go.ChangeShapes Go.WideShapes Go.ChangeAt Go.RowKit
open Sp (Th Hp Stays All Ro roT rowT cellsT exT puT star)
section
variable {o w w' wb : World} {l : List Th} {B : Nat} {m : Md}
theorem set_len (k : ByteArray) (i : Ia.It) (keep : Bool) (m : Md) : (setM k i keep m).K.length ≤ m.K.length + 1 := touch_le k m.K
theorem set_evl (k : ByteArray) (i : Ia.It) (keep : Bool) (m : Md) : (setM k i keep m).ev.length = m.ev.length + 1 := by show (m.ev ++ [(1, k)]).length = _; simp
/-- A store that lets go of keys: what it comes to in the end stays. -/
structure EvC (m0 c : Md) (n : Nat) : Prop where
  e : evM c = evM m0
  b : c.b = m0.b
  l : c.K.length ≤ n
  v : c.ev.length + c.K.length ≤ 20000
  z : c.K.length ≤ 902
theorem lose_head2 {c : Md} (hn : c.K.Nodup) {x : ByteArray} {r : List ByteArray} (e : c.K = x :: r) (kind : Int) : goneM x kind c = loseM x kind c := goneM_in (Ca.inK_iff.2 (by rw [e]; exact List.mem_cons_self ..))
theorem EvC.step {m0 c : Md} {n : Nat} (h : EvC m0 c (n + 1)) (hn : c.K.Nodup) {x y : ByteArray} {r : List ByteArray} (e : c.K = x :: y :: r) (hb : c.b < (sumB c.f c.K : Int)) : EvC m0 (goneM x 4 c) n := by
  have hk := lose_head hn e 4
  have hl := h.l
  have hv := h.v
  rw [e] at hl hv
  simp only [List.length_cons] at hl hv
  rw [lose_head2 hn e]
  refine ⟨by rw [← evM_step hn e hb]; exact h.e, h.b, by rw [hk]; simp; omega, ?_, ?_⟩
  all_goals rw [hk]
  · show (c.ev ++ [(4, x)]).length + _ ≤ _
    simp
    omega
  · have := h.z
    rw [e] at this
    simp only [List.length_cons] at this ⊢
    omega
theorem EvC.stop {m0 c : Md} {n : Nat} (h : EvC m0 c n) (hb : (sumB c.f c.K : Int) ≤ c.b ∨ c.K.length ≤ 1) : c = evM m0 := by
  rw [← h.e]
  exact (evF_stop hb _).symm
set_option maxHeartbeats 32000000 in
set_option maxRecDepth 100000 in
theorem rput_calls {a : Option Addr} {c : Nat} {i : Ia.It} (h : Hp o w (roT (itemR a c i) :: refT B m :: l)) (hw : Below w.heap.size w wb) (k : ByteArray) (hk : k.size ≤ 1000) (keep : Bool) (now : Int) (b : Bool) (hb : b = true ↔ Ia.RightP i) (hn : m.K.length ≤ 900) (he : m.ev.length ≤ 10000) :
    Calls Tryz.prog 28 #[.pointer (some ⟨B, 0, none⟩), .string k, .agg #[.int .i64 i.k, .string i.t, .slice a i.l.length c], .bool keep, .int .i64 now] wb fun e w' => e = .returned (.int .i64 (putN k i b m)) ∧ Hp o w' (refT B (putM k i keep now b m) :: l) := by
  have h0 := (h.bel hw).cellsNew [.int .i64 i.k, .string i.t, .slice a i.l.length c] 31
  have HH : Hid (Hp o (wb.alloc (.cells #[.int .i64 i.k, .string i.t, .slice a i.l.length c] 31)) (cellsT wb.heap.size [.int .i64 i.k, .string i.t, .slice a i.l.length c] :: roT (itemR a c i) :: refT B m :: l)) := Lib.hid h0
  have HD := Lib.hid (rdue_calls (HH.out.pull 2 rfl) (Below.refl _ _) k now (by omega) (by omega))
  have h1 : (endM k now m).K.length ≤ 900 := Nat.le_trans (end_len k now m) hn
  have h2 := end_evl (k := k) (now := now) he
  have HPM : Hid (putM k i keep now b m = if 512 < k.size ∨ b = false then endM k now m else if (endM k now m).b < (costN k i : Int) then endM k now m else evM (setM k i keep (endM k now m))) := Lib.hid (by rw [end_b]; rfl)
  have HPN : Hid (putN k i b m = if 512 < k.size ∨ b = false then 31 else if (endM k now m).b < (costN k i : Int) then 121 else 0) := Lib.hid (by rw [end_b]; rfl)
  have HB := Lib.hid hb
  clear h hw h0 hn he hb
  generalize putN k i b m = N at *
  generalize endM k now m = m1 at *
  generalize putM k i keep now b m = M at *
  go_enter Tryz.func28, Tryz.ntmps28
  go_wp2_with fail
  generalize wb.alloc (.cells #[.int .i64 i.k, .string i.t, .slice a i.l.length c] 31) = W0 at *
  generalize wb.heap.size = B0 at *
  refine HD.out.mono ?_; rintro en w1 ⟨cv, C, ev, r, rfl, hr, hI, h3⟩
  have hrk := idx_in hr hI
  have hcl : C.length ≤ 900 := by rw [hr.len]; exact h1
  obtain ⟨ca, cc, rfl, -, hcc, ha⟩ := (h3.pull 1 rfl).rowForm
  have HR := Lib.hid hr
  have HI := Lib.hid hI
  have HRK := Lib.hid hrk
  have HA := Lib.hid ha
  have H1 : Hid (Hp o w1 (cellsT B0 [.int .i64 i.k, .string i.t, .slice a i.l.length c] :: roT (itemR a c i) :: cellsT B [.slice ca C.length cc, .int .i64 m1.b, ev] :: rowC (.slice ca C.length cc) C :: evsT ev m1.ev :: roT (rowsC C) :: l)) := Lib.hid ((h3.pull 5 rfl).pull 5 rfl)
  clear HD HH hr hI hrk h3 ha
  have HZ : ∀ W, Hp o W (cellsT B0 [.int .i64 i.k, .string i.t, .slice a i.l.length c] :: roT (itemR a c i) :: cellsT B [.slice ca C.length cc, .int .i64 m1.b, ev] :: rowC (.slice ca C.length cc) C :: evsT ev m1.ev :: roT (rowsC C) :: l) → Hp o W (refT B m1 :: l) := fun W hW => ref_shut HR.out rfl rfl hW.drop.drop
  have HZ := Lib.hid HZ
  have b0 := H1.out.cell 0 rfl
  have b1 := H1.out.cell 1 rfl
  have b2 := H1.out.cell 2 rfl
  by_cases hks : 512 < k.size
  · have hkc : (512 : Int) < (k.size : Int) := by omega
    have HM2 : Hid (M = m1) := Lib.hid (by rw [HPM.out, if_pos (.inl hks)])
    have HN2 : Hid (N = 31) := Lib.hid (by rw [HPN.out, if_pos (.inl hks)])
    clear HPM HPN
    go_wp2_with fail
    go_ret
    exact ⟨by rw [HN2.out]; rfl, by rw [HM2.out]; exact HZ.out _ H1.out⟩
  have hkc : ¬ (512 : Int) < (k.size : Int) := by omega
  have HRi := Lib.hid (Ia.refRight_calls w1 i.k i.t a c _ i.l rfl (item_inF (H1.out.pull 1 rfl)) b HB.out)
  cases b with
  | false =>
    have HM2 : Hid (M = m1) := Lib.hid (by rw [HPM.out, if_pos (.inr rfl)])
    have HN2 : Hid (N = 31) := Lib.hid (by rw [HPN.out, if_pos (.inr rfl)])
    clear HPM HPN
    go_wp2_with fail
    refine HRi.out.mono ?_; rintro en w2 ⟨rfl, hb2⟩
    have H2 := Lib.hid (H1.out.bel hb2)
    clear hb2 HRi H1 b0 b1 b2
    go_wp2_with fail
    go_ret
    exact ⟨by rw [HN2.out]; rfl, by rw [HM2.out]; exact HZ.out _ H2.out⟩
  | true =>
    have hri : Ia.RightP i := HB.out.1 rfl
    have HM2 : Hid (M = if m1.b < (costN k i : Int) then m1 else evM (setM k i keep m1)) := Lib.hid (by rw [HPM.out, if_neg (by rintro (h | h); omega; cases h)])
    have HN2 : Hid (N = if m1.b < (costN k i : Int) then 121 else 0) := Lib.hid (by rw [HPN.out, if_neg (by rintro (h | h); omega; cases h)])
    clear HPM HPN HB
    go_wp2_with fail
    refine HRi.out.mono ?_; rintro en w2 ⟨rfl, hb2⟩
    have H2 := Lib.hid (H1.out.bel hb2)
    clear hb2 HRi H1 b0 b1 b2
    obtain ⟨F, F1, F2, F3⟩ := Sp.ovr w2
    have c1 := Sp.ovr_cell F1 ((H2.out.pull 2 rfl).cell 1 rfl)
    have b0 := Sp.ovr_cell F1 (H2.out.cell 0 rfl)
    have b1 := Sp.ovr_cell F1 (H2.out.cell 1 rfl)
    have b2 := Sp.ovr_cell F1 (H2.out.cell 2 rfl)
    have HF1 := Lib.hid F1
    have HF3 := Lib.hid F3
    have HCo := Lib.hid fun x => refcost_calls (F x) k hk i hri a c (item_inF ((H2.out.bel (F1 x)).pull 1 rfl))
    have HRI := Lib.hid hri
    clear F1 F3 hri
    go_wp2_with fail
    refine Sp.wp_region_cls F (by kernel_rfl) (by kernel_rfl) F2 ?_
    repeat (go_big_quiet_step ((go_at_call 41; with_reducible exact Sp.q_ovr HF3.out (HCo.out _))))
    refine wpQuiet_nil ?_
    intro _ hw'
    obtain ⟨x1, hw2⟩ := hw'
    subst hw2
    have H3 := Lib.hid (H2.out.bel (HF1.out x1))
    clear c1 b0 b1 b2 F2 HF1 HF3 HCo H2
    generalize F x1 = W3 at *
    by_cases hco : m1.b < (costN k i : Int)
    · have HM3 : Hid (M = m1) := Lib.hid (by rw [HM2.out, if_pos hco])
      have HN3 : Hid (N = 121) := Lib.hid (by rw [HN2.out, if_pos hco])
      clear HM2 HN2
      go_wp2_with fail
      go_ret
      exact ⟨by rw [HN3.out]; rfl, by rw [HM3.out]; exact HZ.out _ H3.out⟩
    · have HM3 : Hid (M = evM (setM k i keep m1)) := Lib.hid (by rw [HM2.out, if_neg hco])
      have HN3 : Hid (N = 0) := Lib.hid (by rw [HN2.out, if_neg hco])
      clear HM2 HN2 HZ
      have b0 := H3.out.cell 0 rfl
      have b1 := H3.out.cell 1 rfl
      have b2 := H3.out.cell 2 rfl
      have HSe : Hid (∀ t, t = (if keep = true then whenM m1 k else -1) → RepC (dropC k C ++ [⟨k, i, a, c, t⟩]) (setM k i keep m1)) := Lib.hid fun t ht => HR.out.set k (by omega) i HRI.out keep a c t ht
      have h4 := H3.out.cellsNew [.string k, .int .i64 i.k, .string i.t, .slice a i.l.length c, .int .i64 (-1)] 87
      have H4 : Hid (Hp o (W3.alloc (.cells #[.string k, .int .i64 i.k, .string i.t, .slice a i.l.length c, .int .i64 (-1)] 87)) (cellsT W3.heap.size [.string k, .int .i64 i.k, .string i.t, .slice a i.l.length c, .int .i64 (-1)] :: roT (itemR a c i) :: cellsT B [.slice ca C.length cc, .int .i64 m1.b, ev] :: rowC (.slice ca C.length cc) C :: evsT ev m1.ev :: roT (rowsC C) :: l)) := Lib.hid (h4.dropAt 1 rfl)
      clear h4 H3
      go_upto_region 7 with fail
      generalize W3.alloc (.cells #[.string k, .int .i64 i.k, .string i.t, .slice a i.l.length c, .int .i64 (-1)] 87) = W4 at *
      generalize W3.heap.size = BX at *
      clear b0 b1 b2
      clear hco hkc
      have HR2 := Lib.hid HR.out.nd
      have HE0 : Hid (EvC (setM k i keep m1) (setM k i keep m1) 902) := Lib.hid ⟨rfl, rfl, by have := set_len k i keep m1; omega, by have := set_len k i keep m1; have := set_evl k i keep m1; omega, by have := set_len k i keep m1; omega⟩
      obtain ⟨m2, hm2⟩ : ∃ m2, setM k i keep m1 = m2 := ⟨_, rfl⟩
      have HM4 := Lib.hid hm2
      rw [hm2] at HM3 HE0
      clear hm2
      cases hin : Ca.inK k m1.K with
      | false =>
        have hr0 : r < 0 := by
          have := HRK.out
          rw [hin] at this
          simp at this; omega
        obtain ⟨t, ht, ht2⟩ : ∃ t, t = (if keep = true then whenM m1 k else -1) ∧ t = -1 := ⟨-1, by rw [when_no HR.out.pre hin]; simp, rfl⟩
        have hDC : dropC k C = C := dropC_none fun hm => by
          rw [HR.out.ks] at hm
          rw [Ca.inK_iff.2 hm] at hin; cases hin
        have HRS := Lib.hid (HSe.out t ht)
        rw [hDC] at HRS
        obtain ⟨D, hD⟩ : ∃ D, C = D := ⟨_, rfl⟩
        have HDC : Hid (∀ q ∈ D, q ∈ C) := Lib.hid fun q hq => by rw [hD]; exact hq
        have h6 : Hp o W4 (rowC (.slice ca C.length cc) C :: cellsT B [.slice ca C.length cc, .int .i64 m1.b, ev] :: cellsT BX [.string k, .int .i64 i.k, .string i.t, .slice a i.l.length c, .int .i64 t] :: evsT ev m1.ev :: roT (rowsC C) :: roT (itemR a c i) :: l) := by
          rw [ht2]
          exact (((((H4.out.pull 1 rfl).pull 5 rfl).pull 5 rfl).pull 3 rfl).pull 4 rfl).pull 5 rfl
        have hdl : D.length ≤ 900 := by rw [← hD]; exact hcl
        have H6 : Hid (Hp o W4 (rowC (.slice ca D.length cc) D :: cellsT B [.slice ca D.length cc, .int .i64 m1.b, ev] :: cellsT BX [.string k, .int .i64 i.k, .string i.t, .slice a i.l.length c, .int .i64 t] :: evsT ev m1.ev :: roT (rowsC C) :: roT (itemR a c i) :: l)) := Lib.hid (by rw [← hD]; exact h6)
        rw [hD] at HRS
        clear h6 H4 ht ht2 hDC hD hin HR HI HRK HA HSe HR2
        go_upto_region 11 with fail
        generalize ca = da at *
        generalize cc = dc at *
        generalize W4 = W6 at *
        obtain ⟨i0, hi0, hz0, hz1, hz2⟩ := info_parts iCell
        obtain ⟨a7, c7, w7, hrun, h7, hst⟩ := Sp.rowRun H6.out (wb := (W6.alloc (.cells #[.string k, .int .i64 i.k, .string i.t, .slice a i.l.length c, .int .i64 t] 87)).drew) (Below.drew (Sp.bbox _)) 44 44 i0 _ 72 Tryz.underlying44 hi0 hz0 hz1 hz2 rfl (by decide) ⟨W6.heap.size, 0, none⟩ 1 1 [.string k, .int .i64 i.k, .string i.t, .slice a i.l.length c, .int .i64 t] rfl
          (fun j u hj => by
            rw [Addr.add_lit, Nat.zero_add]
            show (W6.alloc _).cell? _ = _
            rw [World.cell?_alloc_new]
            simpa using hj)
          (fun u hu => by
            simp only [List.mem_cons, List.not_mem_nil, or_false] at hu
            rcases hu with rfl | rfl | rfl | rfl | rfl <;> rfl) (by unfold maxLen; omega) (by omega)
        have c0 := (H6.out.pull 1 rfl).cell 0 rfl
        have c0a : (W6.alloc (.cells #[.string k, .int .i64 i.k, .string i.t, .slice a i.l.length c, .int .i64 t] 87)).cell? ⟨B, 0, none⟩ = some (.slice da D.length dc) := ((H6.out.bel (Sp.bbox _)).pull 1 rfl).cell 0 rfl
        have x0 := (H6.out.pull 2 rfl).cell 0 rfl
        have x1 := (H6.out.pull 2 rfl).cell 1 rfl
        have x2 := (H6.out.pull 2 rfl).cell 2 rfl
        have x3 := (H6.out.pull 2 rfl).cell 3 rfl
        have x4 := (H6.out.pull 2 rfl).cell 4 rfl
        have h7 := rowC_push (p := ⟨k, i, a, c, t⟩) h7
        have H7 : Hid (Hp o w7 (cellsT B [.slice da D.length dc, .int .i64 m1.b, ev] :: rowC (.slice a7 (D.length + 1) c7) (D ++ [⟨k, i, a, c, t⟩]) :: cellsT BX [.string k, .int .i64 i.k, .string i.t, .slice a i.l.length c, .int .i64 t] :: evsT ev m1.ev :: roT (rowsC C) :: roT (itemR a c i) :: l)) := Lib.hid (h7.pull 1 rfl)
        have u0 := H7.out.cell 0 rfl
        have v0 := H7.out.free 0 rfl
        have h8 := H7.out.cellSet 0 (.slice a7 (D.length + 1) c7) rfl
        have h9 := (((h8.dropAt 2 rfl).pull 3 rfl).pull 4 rfl).pull 1 rfl
        have h10 := ro_two (r := rowsC (D ++ [⟨k, i, a, c, t⟩])) h9 (fun h1 h2 q hq => by
          rcases List.mem_append.1 hq with hq | hq
          · exact h1 q (HDC.out q hq)
          · rw [List.mem_singleton.1 hq]; exact h2)
        have H9 : Hid (Hp o (w7.setCell ⟨B, 0, none⟩ (.slice a7 (D.length + 1) c7)) (evsT ev m1.ev :: cellsT B [.slice a7 (D.length + 1) c7, .int .i64 m1.b, ev] :: rowC (.slice a7 (D.length + 1) c7) (D ++ [⟨k, i, a, c, t⟩]) :: roT (rowsC (D ++ [⟨k, i, a, c, t⟩])) :: l)) := Lib.hid (((h10.pull 2 rfl).pull 2 rfl).pull 3 rfl)
        clear h7 hst hi0 hz0 hz1 hz2 H7 H6 h8 h9 h10 HDC
        go_region_law (
          refine Sp.step_app (o := ⟨some 58, _, _, _, _, _⟩) rfl (.tmp 55) (.tmp 57) rfl ?_ ?_ hrun ?_
          first | rfl | simp [Act.eval]
          first | rfl | simp [Act.eval])
        all_goals clear hrun c0 c0a x0 x1 x2 x3 x4 u0 v0
        all_goals generalize w7.setCell ⟨B, 0, none⟩ (.slice a7 (D.length + 1) c7) = W8 at *
        all_goals have e2 := (H9.out.pull 1 rfl).cell 2 rfl
        all_goals go_wp2_with (at_builtin; refine evPush H9.out rfl _ _ rfl rfl 1 k rfl (by omega) ?_)
        all_goals intro a8 c8 w8 h10
        all_goals have H10 : Hid (Hp o w8 (cellsT B [.slice a7 (D.length + 1) c7, .int .i64 m1.b, ev] :: evsT (.slice a8 (m1.ev.length + 1) c8) (m1.ev ++ [(1, k)]) :: rowC (.slice a7 (D.length + 1) c7) (D ++ [⟨k, i, a, c, t⟩]) :: roT (rowsC (D ++ [⟨k, i, a, c, t⟩])) :: l)) := Lib.hid (h10.pull 1 rfl)
        all_goals have g2 := H10.out.cell 2 rfl
        all_goals have f2 := H10.out.free 2 rfl
        all_goals have h11 := (H10.out.cellSet 2 (.slice a8 (m1.ev.length + 1) c8) rfl).pull 2 rfl
        all_goals have H11 : Hid (Hp o (w8.setCell ⟨B, 2, none⟩ (.slice a8 (m1.ev.length + 1) c8)) (refT B m2 :: l)) := Lib.hid (ref_shut (HM4.out ▸ HRS.out) (by rw [← HM4.out]; rfl) (by rw [← HM4.out]; rfl) (h11.pull 1 rfl))
        all_goals clear h10 H9 e2 h11 H10 HRS
        all_goals go_wp2_with fail
        all_goals generalize w8.setCell ⟨B, 2, none⟩ (.slice a8 (m1.ev.length + 1) c8) = W9 at *
        all_goals (
          go_loopg [] 902 (fun g wr => ∃ mc, Hid (EvC m2 mc g) ∧ Hid (Hp o wr (refT B mc :: l)))
          case atStart => exact ⟨m2, HE0, H11⟩
          case round =>
            obtain ⟨mc, HE, HH⟩ := hrel
            clear H11
            obtain ⟨cv2, C2, ev2, hr2, h2⟩ := ref_open HH.out
            have hl2 : C2.length ≤ 902 ∧ mc.K.length = C2.length := by
              have := HE.out.l
              have := hr2.len
              have := HE.out.z
              exact ⟨by omega, by omega⟩
            obtain ⟨a2, cc2, rfl, -, hcc2, ha2⟩ := (h2.pull 1 rfl).rowForm
            obtain ⟨F, F1, F2, F3⟩ := Sp.ovr wr
            have c0 := Sp.ovr_cell F1 (h2.cell 0 rfl)
            have c1 := Sp.ovr_cell F1 (h2.cell 1 rfl)
            have HF1 := Lib.hid F1
            have HF3 := Lib.hid F3
            have HBy := Lib.hid fun x => rbytes_calls HH.out (F1 x) (by omega)
            have HR2 := Lib.hid hr2
            have H2 := Lib.hid h2
            obtain ⟨s, hs⟩ : ∃ s : Int, ((sumB mc.f mc.K : Nat) : Int) = s := ⟨_, rfl⟩
            have HS := Lib.hid hs
            rw [hs] at HBy
            clear F1 F3 hr2 h2 hs
            by_cases hsum : mc.b < s
            · by_cases hk2 : 1 < C2.length
              · have hk2c : (1 : Int) < (C2.length : Int) := by omega
                obtain ⟨gb2, rfl⟩ := ha2 (by omega)
                obtain ⟨x, y, r, hK, hx⟩ : ∃ x y r, mc.K = x :: y :: r ∧ C2[0].k = x := by
                  have h1 := HR2.out.ks
                  match C2, hk2 with
                  | p :: q :: C3, _ => exact ⟨p.k, q.k, C3.map (fun z : Cw => z.k), h1.symm, rfl⟩
                have HK := Lib.hid hK
                have HX := Lib.hid hx
                clear hK hx ha2
                go_wp2_with fail
                refine Sp.wp_region_cls F (by kernel_rfl) (by kernel_rfl) F2 ?_
                repeat (go_big_quiet_step ((go_at_call 13; with_reducible exact Sp.q_ovr HF3.out (HBy.out _))))
                refine wpQuiet_nil ?_
                intro _ hw'
                obtain ⟨x1, hw2⟩ := hw'
                subst hw2
                have H3 := Lib.hid (H2.out.bel (HF1.out x1))
                clear c0 c1 F2 HF1 HF3 HBy H2 HH
                generalize F x1 = W3 at *
                have c0 := H3.out.cell 0 rfl
                have d0 := (cell5 (H3.out.pull 1 rfl) (j := 0) (by omega)).1
                rw [HX.out, Nat.zero_mul] at d0
                have HG := Lib.hid (rgone_calls (ref_shut HR2.out rfl rfl H3.out) (Below.refl _ _) x 4 (by decide) (by decide) (by omega) (by have := HE.out.v; omega))
                have hgk : 2 ≤ gk := by have := HE.out.l; omega
                have HE2 : Hid (EvC m2 (goneM x 4 mc) (gk - 1)) := Lib.hid (by
                  obtain ⟨n, rfl⟩ : ∃ n, gk = n + 1 := ⟨gk - 1, by omega⟩
                  exact HE.out.step HR2.out.pre.kn HK.out (by rw [HS.out]; exact hsum))
                go_wp2_with fail
                refine HG.out.mono ?_; rintro en w13 ⟨rfl, h13⟩
                have H13 := Lib.hid h13
                clear h13 HG c0 d0 H3
                go_wp2_with fail
                go_roundg (gk - 1)
                case measure => omega
                case rel => exact ⟨_, HE2, H13⟩
              · have hk2c : ¬ (1 : Int) < (C2.length : Int) := by omega
                have HV : Hid (mc = M) := Lib.hid (by rw [HM3.out]; exact HE.out.stop (.inr (by omega)))
                go_wp2_with fail
                refine Sp.wp_region_cls F (by kernel_rfl) (by kernel_rfl) F2 ?_
                repeat (go_big_quiet_step ((go_at_call 13; with_reducible exact Sp.q_ovr HF3.out (HBy.out _))))
                refine wpQuiet_nil ?_
                intro _ hw'
                obtain ⟨x1, hw2⟩ := hw'
                subst hw2
                have H3 := Lib.hid (HH.out.bel (HF1.out x1))
                clear c0 c1 F2 HF1 HF3 HBy H2 HH
                generalize F x1 = W3 at *
                go_wp2_with fail
                go_ret
                exact ⟨by rw [HN3.out]; rfl, by rw [← HV.out]; exact H3.out⟩
            · have hd : decide (mc.b < s) = false := decide_eq_false hsum
              have HV : Hid (mc = M) := Lib.hid (by rw [HM3.out]; exact HE.out.stop (.inl (by rw [HS.out]; omega)))
              go_wp2_with fail
              refine Sp.wp_region_cls F (by kernel_rfl) (by kernel_rfl) F2 ?_
              repeat (go_big_quiet_step ((go_at_call 13; with_reducible exact Sp.q_ovr HF3.out (HBy.out _))))
              refine wpQuiet_nil ?_
              intro _ hw'
              obtain ⟨x1, hw2⟩ := hw'
              subst hw2
              have H3 := Lib.hid (HH.out.bel (HF1.out x1))
              clear c0 c1 F2 HF1 HF3 HBy H2 HH
              generalize F x1 = W3 at *
              go_wp2_with fail
              go_ret
              exact ⟨by rw [HN3.out]; rfl, by rw [← HV.out]; exact H3.out⟩)
      | true =>
        obtain ⟨j, hj, rfl, hjk⟩ := idx_j HI.out (HRK.out.2 hin)
        obtain ⟨gb, rfl⟩ := HA.out (by omega)
        have hjt : C[j].t = whenM m1 k := by rw [← hjk]; exact (HR.out.it _ (List.getElem_mem hj)).2
        have hjc : (j : Int) < (C.length : Int) := by omega
        have HER : Hid (C.take j ++ C.drop (j + 1) = dropC k C) := Lib.hid (erase_drop HR2.out hj hjk)
        have HDC : Hid (∀ q ∈ dropC k C, q ∈ C) := Lib.hid fun q hq => (mem_dropC.1 hq).1
        have hdl : (dropC k C).length ≤ 900 := Nat.le_trans (dropC_len k C) hcl
        cases keep with
        | true =>
          have HRS := Lib.hid (HSe.out C[j].t hjt)
          have c0 := (H4.out.pull 2 rfl).cell 0 rfl
          obtain ⟨-, -, -, -, d4⟩ := cell5 (H4.out.pull 3 rfl) hj
          have x4 := H4.out.cell 4 rfl
          have f4 := H4.out.free 4 rfl
          have h5 : Hp o (W4.setCell ⟨BX, 4, none⟩ (.int .i64 C[j].t)) (cellsT BX [.string k, .int .i64 i.k, .string i.t, .slice a i.l.length c, .int .i64 C[j].t] :: roT (itemR a c i) :: cellsT B [.slice (some ⟨gb, 0, none⟩) C.length cc, .int .i64 m1.b, ev] :: rowC (.slice (some ⟨gb, 0, none⟩) C.length cc) C :: evsT ev m1.ev :: roT (rowsC C) :: l) := H4.out.cellSet 4 (.int .i64 C[j].t) rfl
          have H5 : Hid (Hp o (W4.setCell ⟨BX, 4, none⟩ (.int .i64 C[j].t)) (cellsT B [.slice (some ⟨gb, 0, none⟩) C.length cc, .int .i64 m1.b, ev] :: rowC (.slice (some ⟨gb, 0, none⟩) C.length cc) C :: cellsT BX [.string k, .int .i64 i.k, .string i.t, .slice a i.l.length c, .int .i64 C[j].t] :: evsT ev m1.ev :: roT (rowsC C) :: roT (itemR a c i) :: l)) := Lib.hid (((((((h5.pull 1 rfl).pull 5 rfl).pull 5 rfl).pull 3 rfl).pull 5 rfl).pull 5 rfl))
          clear h5 H4 hin HR HI HRK HA HSe HR2 hjt hjk
          generalize C[j].t = t at *
          go_upto_region 10 with fail
          generalize W4.setCell ⟨BX, 4, none⟩ (.int .i64 t) = W5 at *
          clear c0 d4 x4 f4
          have HW := Lib.hid (without_calls H5.out (Below.refl _ _) (by omega) hj)
          rw [HER.out] at HW
          generalize dropC k C = D at *
          go_wp2_with fail
          refine HW.out.mono ?_; rintro en W6 ⟨rfl, cv6, h6⟩
          obtain ⟨da, dc, rfl, -, hdc, -⟩ := (h6.pull 1 rfl).rowForm
          have H6 := Lib.hid (h6.pull 1 rfl)
          clear h6 HW H5 HER
          go_upto_region 11 with fail
          obtain ⟨i0, hi0, hz0, hz1, hz2⟩ := info_parts iCell
          obtain ⟨a7, c7, w7, hrun, h7, hst⟩ := Sp.rowRun H6.out (wb := (W6.alloc (.cells #[.string k, .int .i64 i.k, .string i.t, .slice a i.l.length c, .int .i64 t] 87)).drew) (Below.drew (Sp.bbox _)) 44 44 i0 _ 72 Tryz.underlying44 hi0 hz0 hz1 hz2 rfl (by decide) ⟨W6.heap.size, 0, none⟩ 1 1 [.string k, .int .i64 i.k, .string i.t, .slice a i.l.length c, .int .i64 t] rfl
            (fun j u hj => by
              rw [Addr.add_lit, Nat.zero_add]
              show (W6.alloc _).cell? _ = _
              rw [World.cell?_alloc_new]
              simpa using hj)
            (fun u hu => by
              simp only [List.mem_cons, List.not_mem_nil, or_false] at hu
              rcases hu with rfl | rfl | rfl | rfl | rfl <;> rfl) (by unfold maxLen; omega) (by omega)
          have c0 := (H6.out.pull 1 rfl).cell 0 rfl
          have c0a : (W6.alloc (.cells #[.string k, .int .i64 i.k, .string i.t, .slice a i.l.length c, .int .i64 t] 87)).cell? ⟨B, 0, none⟩ = some (.slice da D.length dc) := ((H6.out.bel (Sp.bbox _)).pull 1 rfl).cell 0 rfl
          have x0 := (H6.out.pull 2 rfl).cell 0 rfl
          have x1 := (H6.out.pull 2 rfl).cell 1 rfl
          have x2 := (H6.out.pull 2 rfl).cell 2 rfl
          have x3 := (H6.out.pull 2 rfl).cell 3 rfl
          have x4 := (H6.out.pull 2 rfl).cell 4 rfl
          have h7 := rowC_push (p := ⟨k, i, a, c, t⟩) h7
          have H7 : Hid (Hp o w7 (cellsT B [.slice da D.length dc, .int .i64 m1.b, ev] :: rowC (.slice a7 (D.length + 1) c7) (D ++ [⟨k, i, a, c, t⟩]) :: cellsT BX [.string k, .int .i64 i.k, .string i.t, .slice a i.l.length c, .int .i64 t] :: evsT ev m1.ev :: roT (rowsC C) :: roT (itemR a c i) :: l)) := Lib.hid (h7.pull 1 rfl)
          have u0 := H7.out.cell 0 rfl
          have v0 := H7.out.free 0 rfl
          have h8 := H7.out.cellSet 0 (.slice a7 (D.length + 1) c7) rfl
          have h9 := (((h8.dropAt 2 rfl).pull 3 rfl).pull 4 rfl).pull 1 rfl
          have h10 := ro_two (r := rowsC (D ++ [⟨k, i, a, c, t⟩])) h9 (fun h1 h2 q hq => by
            rcases List.mem_append.1 hq with hq | hq
            · exact h1 q (HDC.out q hq)
            · rw [List.mem_singleton.1 hq]; exact h2)
          have H9 : Hid (Hp o (w7.setCell ⟨B, 0, none⟩ (.slice a7 (D.length + 1) c7)) (evsT ev m1.ev :: cellsT B [.slice a7 (D.length + 1) c7, .int .i64 m1.b, ev] :: rowC (.slice a7 (D.length + 1) c7) (D ++ [⟨k, i, a, c, t⟩]) :: roT (rowsC (D ++ [⟨k, i, a, c, t⟩])) :: l)) := Lib.hid (((h10.pull 2 rfl).pull 2 rfl).pull 3 rfl)
          clear h7 hst hi0 hz0 hz1 hz2 H7 H6 h8 h9 h10 HDC
          go_region_law (
            refine Sp.step_app (o := ⟨some 58, _, _, _, _, _⟩) rfl (.tmp 55) (.tmp 57) rfl ?_ ?_ hrun ?_
            first | rfl | simp [Act.eval]
            first | rfl | simp [Act.eval])
          all_goals clear hrun c0 c0a x0 x1 x2 x3 x4 u0 v0
          all_goals generalize w7.setCell ⟨B, 0, none⟩ (.slice a7 (D.length + 1) c7) = W8 at *
          all_goals have e2 := (H9.out.pull 1 rfl).cell 2 rfl
          all_goals go_wp2_with (at_builtin; refine evPush H9.out rfl _ _ rfl rfl 1 k rfl (by omega) ?_)
          all_goals intro a8 c8 w8 h10
          all_goals have H10 : Hid (Hp o w8 (cellsT B [.slice a7 (D.length + 1) c7, .int .i64 m1.b, ev] :: evsT (.slice a8 (m1.ev.length + 1) c8) (m1.ev ++ [(1, k)]) :: rowC (.slice a7 (D.length + 1) c7) (D ++ [⟨k, i, a, c, t⟩]) :: roT (rowsC (D ++ [⟨k, i, a, c, t⟩])) :: l)) := Lib.hid (h10.pull 1 rfl)
          all_goals have g2 := H10.out.cell 2 rfl
          all_goals have f2 := H10.out.free 2 rfl
          all_goals have h11 := (H10.out.cellSet 2 (.slice a8 (m1.ev.length + 1) c8) rfl).pull 2 rfl
          all_goals have H11 : Hid (Hp o (w8.setCell ⟨B, 2, none⟩ (.slice a8 (m1.ev.length + 1) c8)) (refT B m2 :: l)) := Lib.hid (ref_shut (HM4.out ▸ HRS.out) (by rw [← HM4.out]; rfl) (by rw [← HM4.out]; rfl) (h11.pull 1 rfl))
          all_goals clear h10 H9 e2 h11 H10 HRS
          all_goals go_wp2_with fail
          all_goals generalize w8.setCell ⟨B, 2, none⟩ (.slice a8 (m1.ev.length + 1) c8) = W9 at *
          all_goals (
            go_loopg [] 902 (fun g wr => ∃ mc, Hid (EvC m2 mc g) ∧ Hid (Hp o wr (refT B mc :: l)))
            case atStart => exact ⟨m2, HE0, H11⟩
            case round =>
              obtain ⟨mc, HE, HH⟩ := hrel
              clear H11
              obtain ⟨cv2, C2, ev2, hr2, h2⟩ := ref_open HH.out
              have hl2 : C2.length ≤ 902 ∧ mc.K.length = C2.length := by
                have := HE.out.l
                have := hr2.len
                have := HE.out.z
                exact ⟨by omega, by omega⟩
              obtain ⟨a2, cc2, rfl, -, hcc2, ha2⟩ := (h2.pull 1 rfl).rowForm
              obtain ⟨F, F1, F2, F3⟩ := Sp.ovr wr
              have c0 := Sp.ovr_cell F1 (h2.cell 0 rfl)
              have c1 := Sp.ovr_cell F1 (h2.cell 1 rfl)
              have HF1 := Lib.hid F1
              have HF3 := Lib.hid F3
              have HBy := Lib.hid fun x => rbytes_calls HH.out (F1 x) (by omega)
              have HR2 := Lib.hid hr2
              have H2 := Lib.hid h2
              obtain ⟨s, hs⟩ : ∃ s : Int, ((sumB mc.f mc.K : Nat) : Int) = s := ⟨_, rfl⟩
              have HS := Lib.hid hs
              rw [hs] at HBy
              clear F1 F3 hr2 h2 hs
              by_cases hsum : mc.b < s
              · by_cases hk2 : 1 < C2.length
                · have hk2c : (1 : Int) < (C2.length : Int) := by omega
                  obtain ⟨gb2, rfl⟩ := ha2 (by omega)
                  obtain ⟨x, y, r, hK, hx⟩ : ∃ x y r, mc.K = x :: y :: r ∧ C2[0].k = x := by
                    have h1 := HR2.out.ks
                    match C2, hk2 with
                    | p :: q :: C3, _ => exact ⟨p.k, q.k, C3.map (fun z : Cw => z.k), h1.symm, rfl⟩
                  have HK := Lib.hid hK
                  have HX := Lib.hid hx
                  clear hK hx ha2
                  go_wp2_with fail
                  refine Sp.wp_region_cls F (by kernel_rfl) (by kernel_rfl) F2 ?_
                  repeat (go_big_quiet_step ((go_at_call 13; with_reducible exact Sp.q_ovr HF3.out (HBy.out _))))
                  refine wpQuiet_nil ?_
                  intro _ hw'
                  obtain ⟨x1, hw2⟩ := hw'
                  subst hw2
                  have H3 := Lib.hid (H2.out.bel (HF1.out x1))
                  clear c0 c1 F2 HF1 HF3 HBy H2 HH
                  generalize F x1 = W3 at *
                  have c0 := H3.out.cell 0 rfl
                  have d0 := (cell5 (H3.out.pull 1 rfl) (j := 0) (by omega)).1
                  rw [HX.out, Nat.zero_mul] at d0
                  have HG := Lib.hid (rgone_calls (ref_shut HR2.out rfl rfl H3.out) (Below.refl _ _) x 4 (by decide) (by decide) (by omega) (by have := HE.out.v; omega))
                  have hgk : 2 ≤ gk := by have := HE.out.l; omega
                  have HE2 : Hid (EvC m2 (goneM x 4 mc) (gk - 1)) := Lib.hid (by
                    obtain ⟨n, rfl⟩ : ∃ n, gk = n + 1 := ⟨gk - 1, by omega⟩
                    exact HE.out.step HR2.out.pre.kn HK.out (by rw [HS.out]; exact hsum))
                  go_wp2_with fail
                  refine HG.out.mono ?_; rintro en w13 ⟨rfl, h13⟩
                  have H13 := Lib.hid h13
                  clear h13 HG c0 d0 H3
                  go_wp2_with fail
                  go_roundg (gk - 1)
                  case measure => omega
                  case rel => exact ⟨_, HE2, H13⟩
                · have hk2c : ¬ (1 : Int) < (C2.length : Int) := by omega
                  have HV : Hid (mc = M) := Lib.hid (by rw [HM3.out]; exact HE.out.stop (.inr (by omega)))
                  go_wp2_with fail
                  refine Sp.wp_region_cls F (by kernel_rfl) (by kernel_rfl) F2 ?_
                  repeat (go_big_quiet_step ((go_at_call 13; with_reducible exact Sp.q_ovr HF3.out (HBy.out _))))
                  refine wpQuiet_nil ?_
                  intro _ hw'
                  obtain ⟨x1, hw2⟩ := hw'
                  subst hw2
                  have H3 := Lib.hid (HH.out.bel (HF1.out x1))
                  clear c0 c1 F2 HF1 HF3 HBy H2 HH
                  generalize F x1 = W3 at *
                  go_wp2_with fail
                  go_ret
                  exact ⟨by rw [HN3.out]; rfl, by rw [← HV.out]; exact H3.out⟩
              · have hd : decide (mc.b < s) = false := decide_eq_false hsum
                have HV : Hid (mc = M) := Lib.hid (by rw [HM3.out]; exact HE.out.stop (.inl (by rw [HS.out]; omega)))
                go_wp2_with fail
                refine Sp.wp_region_cls F (by kernel_rfl) (by kernel_rfl) F2 ?_
                repeat (go_big_quiet_step ((go_at_call 13; with_reducible exact Sp.q_ovr HF3.out (HBy.out _))))
                refine wpQuiet_nil ?_
                intro _ hw'
                obtain ⟨x1, hw2⟩ := hw'
                subst hw2
                have H3 := Lib.hid (HH.out.bel (HF1.out x1))
                clear c0 c1 F2 HF1 HF3 HBy H2 HH
                generalize F x1 = W3 at *
                go_wp2_with fail
                go_ret
                exact ⟨by rw [HN3.out]; rfl, by rw [← HV.out]; exact H3.out⟩)
        | false =>
          have HRS := Lib.hid (HSe.out (-1) rfl)
          have H5 : Hid (Hp o W4 (cellsT B [.slice (some ⟨gb, 0, none⟩) C.length cc, .int .i64 m1.b, ev] :: rowC (.slice (some ⟨gb, 0, none⟩) C.length cc) C :: cellsT BX [.string k, .int .i64 i.k, .string i.t, .slice a i.l.length c, .int .i64 (-1)] :: evsT ev m1.ev :: roT (rowsC C) :: roT (itemR a c i) :: l)) := Lib.hid (((((((H4.out.pull 1 rfl).pull 5 rfl).pull 5 rfl).pull 3 rfl).pull 5 rfl).pull 5 rfl))
          clear H4 hin HR HI HRK HA HSe HR2 hjt hjk
          go_upto_region 10 with fail
          have HW := Lib.hid (without_calls H5.out (Below.refl _ _) (by omega) hj)
          rw [HER.out] at HW
          generalize dropC k C = D at *
          go_wp2_with fail
          refine HW.out.mono ?_; rintro en W6 ⟨rfl, cv6, h6⟩
          obtain ⟨da, dc, rfl, -, hdc, -⟩ := (h6.pull 1 rfl).rowForm
          have H6 := Lib.hid (h6.pull 1 rfl)
          clear h6 HW H5 HER
          go_upto_region 11 with fail
          obtain ⟨t, ht⟩ : ∃ t : Int, -1 = t := ⟨_, rfl⟩
          rw [ht] at H6 HRS
          clear ht
          obtain ⟨i0, hi0, hz0, hz1, hz2⟩ := info_parts iCell
          obtain ⟨a7, c7, w7, hrun, h7, hst⟩ := Sp.rowRun H6.out (wb := (W6.alloc (.cells #[.string k, .int .i64 i.k, .string i.t, .slice a i.l.length c, .int .i64 t] 87)).drew) (Below.drew (Sp.bbox _)) 44 44 i0 _ 72 Tryz.underlying44 hi0 hz0 hz1 hz2 rfl (by decide) ⟨W6.heap.size, 0, none⟩ 1 1 [.string k, .int .i64 i.k, .string i.t, .slice a i.l.length c, .int .i64 t] rfl
            (fun j u hj => by
              rw [Addr.add_lit, Nat.zero_add]
              show (W6.alloc _).cell? _ = _
              rw [World.cell?_alloc_new]
              simpa using hj)
            (fun u hu => by
              simp only [List.mem_cons, List.not_mem_nil, or_false] at hu
              rcases hu with rfl | rfl | rfl | rfl | rfl <;> rfl) (by unfold maxLen; omega) (by omega)
          have c0 := (H6.out.pull 1 rfl).cell 0 rfl
          have c0a : (W6.alloc (.cells #[.string k, .int .i64 i.k, .string i.t, .slice a i.l.length c, .int .i64 t] 87)).cell? ⟨B, 0, none⟩ = some (.slice da D.length dc) := ((H6.out.bel (Sp.bbox _)).pull 1 rfl).cell 0 rfl
          have x0 := (H6.out.pull 2 rfl).cell 0 rfl
          have x1 := (H6.out.pull 2 rfl).cell 1 rfl
          have x2 := (H6.out.pull 2 rfl).cell 2 rfl
          have x3 := (H6.out.pull 2 rfl).cell 3 rfl
          have x4 := (H6.out.pull 2 rfl).cell 4 rfl
          have h7 := rowC_push (p := ⟨k, i, a, c, t⟩) h7
          have H7 : Hid (Hp o w7 (cellsT B [.slice da D.length dc, .int .i64 m1.b, ev] :: rowC (.slice a7 (D.length + 1) c7) (D ++ [⟨k, i, a, c, t⟩]) :: cellsT BX [.string k, .int .i64 i.k, .string i.t, .slice a i.l.length c, .int .i64 t] :: evsT ev m1.ev :: roT (rowsC C) :: roT (itemR a c i) :: l)) := Lib.hid (h7.pull 1 rfl)
          have u0 := H7.out.cell 0 rfl
          have v0 := H7.out.free 0 rfl
          have h8 := H7.out.cellSet 0 (.slice a7 (D.length + 1) c7) rfl
          have h9 := (((h8.dropAt 2 rfl).pull 3 rfl).pull 4 rfl).pull 1 rfl
          have h10 := ro_two (r := rowsC (D ++ [⟨k, i, a, c, t⟩])) h9 (fun h1 h2 q hq => by
            rcases List.mem_append.1 hq with hq | hq
            · exact h1 q (HDC.out q hq)
            · rw [List.mem_singleton.1 hq]; exact h2)
          have H9 : Hid (Hp o (w7.setCell ⟨B, 0, none⟩ (.slice a7 (D.length + 1) c7)) (evsT ev m1.ev :: cellsT B [.slice a7 (D.length + 1) c7, .int .i64 m1.b, ev] :: rowC (.slice a7 (D.length + 1) c7) (D ++ [⟨k, i, a, c, t⟩]) :: roT (rowsC (D ++ [⟨k, i, a, c, t⟩])) :: l)) := Lib.hid (((h10.pull 2 rfl).pull 2 rfl).pull 3 rfl)
          clear h7 hst hi0 hz0 hz1 hz2 H7 H6 h8 h9 h10 HDC
          go_region_law (
            refine Sp.step_app (o := ⟨some 58, _, _, _, _, _⟩) rfl (.tmp 55) (.tmp 57) rfl ?_ ?_ hrun ?_
            first | rfl | simp [Act.eval]
            first | rfl | simp [Act.eval])
          all_goals clear hrun c0 c0a x0 x1 x2 x3 x4 u0 v0
          all_goals generalize w7.setCell ⟨B, 0, none⟩ (.slice a7 (D.length + 1) c7) = W8 at *
          all_goals have e2 := (H9.out.pull 1 rfl).cell 2 rfl
          all_goals go_wp2_with (at_builtin; refine evPush H9.out rfl _ _ rfl rfl 1 k rfl (by omega) ?_)
          all_goals intro a8 c8 w8 h10
          all_goals have H10 : Hid (Hp o w8 (cellsT B [.slice a7 (D.length + 1) c7, .int .i64 m1.b, ev] :: evsT (.slice a8 (m1.ev.length + 1) c8) (m1.ev ++ [(1, k)]) :: rowC (.slice a7 (D.length + 1) c7) (D ++ [⟨k, i, a, c, t⟩]) :: roT (rowsC (D ++ [⟨k, i, a, c, t⟩])) :: l)) := Lib.hid (h10.pull 1 rfl)
          all_goals have g2 := H10.out.cell 2 rfl
          all_goals have f2 := H10.out.free 2 rfl
          all_goals have h11 := (H10.out.cellSet 2 (.slice a8 (m1.ev.length + 1) c8) rfl).pull 2 rfl
          all_goals have H11 : Hid (Hp o (w8.setCell ⟨B, 2, none⟩ (.slice a8 (m1.ev.length + 1) c8)) (refT B m2 :: l)) := Lib.hid (ref_shut (HM4.out ▸ HRS.out) (by rw [← HM4.out]; rfl) (by rw [← HM4.out]; rfl) (h11.pull 1 rfl))
          all_goals clear h10 H9 e2 h11 H10 HRS
          all_goals go_wp2_with fail
          all_goals generalize w8.setCell ⟨B, 2, none⟩ (.slice a8 (m1.ev.length + 1) c8) = W9 at *
          all_goals (
            go_loopg [] 902 (fun g wr => ∃ mc, Hid (EvC m2 mc g) ∧ Hid (Hp o wr (refT B mc :: l)))
            case atStart => exact ⟨m2, HE0, H11⟩
            case round =>
              obtain ⟨mc, HE, HH⟩ := hrel
              clear H11
              obtain ⟨cv2, C2, ev2, hr2, h2⟩ := ref_open HH.out
              have hl2 : C2.length ≤ 902 ∧ mc.K.length = C2.length := by
                have := HE.out.l
                have := hr2.len
                have := HE.out.z
                exact ⟨by omega, by omega⟩
              obtain ⟨a2, cc2, rfl, -, hcc2, ha2⟩ := (h2.pull 1 rfl).rowForm
              obtain ⟨F, F1, F2, F3⟩ := Sp.ovr wr
              have c0 := Sp.ovr_cell F1 (h2.cell 0 rfl)
              have c1 := Sp.ovr_cell F1 (h2.cell 1 rfl)
              have HF1 := Lib.hid F1
              have HF3 := Lib.hid F3
              have HBy := Lib.hid fun x => rbytes_calls HH.out (F1 x) (by omega)
              have HR2 := Lib.hid hr2
              have H2 := Lib.hid h2
              obtain ⟨s, hs⟩ : ∃ s : Int, ((sumB mc.f mc.K : Nat) : Int) = s := ⟨_, rfl⟩
              have HS := Lib.hid hs
              rw [hs] at HBy
              clear F1 F3 hr2 h2 hs
              by_cases hsum : mc.b < s
              · by_cases hk2 : 1 < C2.length
                · have hk2c : (1 : Int) < (C2.length : Int) := by omega
                  obtain ⟨gb2, rfl⟩ := ha2 (by omega)
                  obtain ⟨x, y, r, hK, hx⟩ : ∃ x y r, mc.K = x :: y :: r ∧ C2[0].k = x := by
                    have h1 := HR2.out.ks
                    match C2, hk2 with
                    | p :: q :: C3, _ => exact ⟨p.k, q.k, C3.map (fun z : Cw => z.k), h1.symm, rfl⟩
                  have HK := Lib.hid hK
                  have HX := Lib.hid hx
                  clear hK hx ha2
                  go_wp2_with fail
                  refine Sp.wp_region_cls F (by kernel_rfl) (by kernel_rfl) F2 ?_
                  repeat (go_big_quiet_step ((go_at_call 13; with_reducible exact Sp.q_ovr HF3.out (HBy.out _))))
                  refine wpQuiet_nil ?_
                  intro _ hw'
                  obtain ⟨x1, hw2⟩ := hw'
                  subst hw2
                  have H3 := Lib.hid (H2.out.bel (HF1.out x1))
                  clear c0 c1 F2 HF1 HF3 HBy H2 HH
                  generalize F x1 = W3 at *
                  have c0 := H3.out.cell 0 rfl
                  have d0 := (cell5 (H3.out.pull 1 rfl) (j := 0) (by omega)).1
                  rw [HX.out, Nat.zero_mul] at d0
                  have HG := Lib.hid (rgone_calls (ref_shut HR2.out rfl rfl H3.out) (Below.refl _ _) x 4 (by decide) (by decide) (by omega) (by have := HE.out.v; omega))
                  have hgk : 2 ≤ gk := by have := HE.out.l; omega
                  have HE2 : Hid (EvC m2 (goneM x 4 mc) (gk - 1)) := Lib.hid (by
                    obtain ⟨n, rfl⟩ : ∃ n, gk = n + 1 := ⟨gk - 1, by omega⟩
                    exact HE.out.step HR2.out.pre.kn HK.out (by rw [HS.out]; exact hsum))
                  go_wp2_with fail
                  refine HG.out.mono ?_; rintro en w13 ⟨rfl, h13⟩
                  have H13 := Lib.hid h13
                  clear h13 HG c0 d0 H3
                  go_wp2_with fail
                  go_roundg (gk - 1)
                  case measure => omega
                  case rel => exact ⟨_, HE2, H13⟩
                · have hk2c : ¬ (1 : Int) < (C2.length : Int) := by omega
                  have HV : Hid (mc = M) := Lib.hid (by rw [HM3.out]; exact HE.out.stop (.inr (by omega)))
                  go_wp2_with fail
                  refine Sp.wp_region_cls F (by kernel_rfl) (by kernel_rfl) F2 ?_
                  repeat (go_big_quiet_step ((go_at_call 13; with_reducible exact Sp.q_ovr HF3.out (HBy.out _))))
                  refine wpQuiet_nil ?_
                  intro _ hw'
                  obtain ⟨x1, hw2⟩ := hw'
                  subst hw2
                  have H3 := Lib.hid (HH.out.bel (HF1.out x1))
                  clear c0 c1 F2 HF1 HF3 HBy H2 HH
                  generalize F x1 = W3 at *
                  go_wp2_with fail
                  go_ret
                  exact ⟨by rw [HN3.out]; rfl, by rw [← HV.out]; exact H3.out⟩
              · have hd : decide (mc.b < s) = false := decide_eq_false hsum
                have HV : Hid (mc = M) := Lib.hid (by rw [HM3.out]; exact HE.out.stop (.inl (by rw [HS.out]; omega)))
                go_wp2_with fail
                refine Sp.wp_region_cls F (by kernel_rfl) (by kernel_rfl) F2 ?_
                repeat (go_big_quiet_step ((go_at_call 13; with_reducible exact Sp.q_ovr HF3.out (HBy.out _))))
                refine wpQuiet_nil ?_
                intro _ hw'
                obtain ⟨x1, hw2⟩ := hw'
                subst hw2
                have H3 := Lib.hid (HH.out.bel (HF1.out x1))
                clear c0 c1 F2 HF1 HF3 HBy H2 HH
                generalize F x1 = W3 at *
                go_wp2_with fail
                go_ret
                exact ⟨by rw [HN3.out]; rfl, by rw [← HV.out]; exact H3.out⟩)
end
end Go.Proofs.YtmjlhmohglbecaaGreatDoor.Sa
