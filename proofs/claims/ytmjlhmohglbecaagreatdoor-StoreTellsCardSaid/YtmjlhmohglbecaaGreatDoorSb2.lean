/- Package store: its rows as they lie, and which place each key has; items that no one writes. No condition but bounds. -/
import Derived.Test.YtmjlhmohglbecaaGreatDoorSpA
import Derived.Test.YtmjlhmohglbecaaGreatDoorSb1
import Derived.Test.YtmjlhmohglbecaaGreatDoorSa1
namespace Go.Proofs.YtmjlhmohglbecaaGreatDoor.Sa
set_option linter.unusedVariables false
set_option linter.unusedSimpArgs false
open Go.ChangeShapes Go.WideShapes Go.ChangeAt Go.RowKit
open Sp (Th Hp Stays All Ro roT rowT cellsT)
/-- The fields of an item, in blocks that R names. -/
def FIn (R : Nat → Prop) (w : World) (a : Option Addr) (l : List Ia.Fd) : Prop := 0 < l.length → ∃ b o, a = some ⟨b, o, none⟩ ∧ R b ∧ ∀ i (h : i < l.length), w.cell? ⟨b, o + i * 2, none⟩ = some (.string l[i].1) ∧ w.cell? ⟨b, o + i * 2 + 1, none⟩ = some (.string l[i].2)
theorem FIn.keep {R R' : Nat → Prop} {w w' : World} {a : Option Addr} {l : List Ia.Fd} (h : FIn R w a l) (hR : ∀ x, R x → R' x) (hb : ∀ x, R x → w'.heap[x]? = w.heap[x]?) : FIn R' w' a l := fun hp => by
  obtain ⟨b, o, rfl, hr, hc⟩ := h hp
  refine ⟨b, o, rfl, hR b hr, fun i hi => ?_⟩
  rw [cell_eq (hb b hr), cell_eq (hb b hr)]
  exact hc i hi
theorem FIn.inF {R : Nat → Prop} {w : World} {a : Option Addr} {l : List Ia.Fd} (h : FIn R w a l) (hR : ∀ x, R x → x < w.heap.size) : Ia.InF w a l := fun hp => by
  obtain ⟨b, o, e, hr, hc⟩ := h hp
  exact ⟨b, o, e, hR b hr, hc⟩
/-- An item as a value. -/
def itV (a : Option Addr) (c : Nat) (i : Ia.It) : Value := .agg #[.int .i64 i.k, .string i.t, .slice a i.l.length c]
def itemR (a : Option Addr) (c : Nat) (i : Ia.It) : Ro :=
  ⟨fun R w => i.l.length ≤ c ∧ c ≤ 9223372036854775807 ∧ FIn R w a i.l, fun h _ _ hR hb => ⟨h.1, h.2.1, h.2.2.keep hR hb⟩⟩
/-- A row: its key, its item, and where the item's fields lie. -/
structure Rw where
  k : ByteArray
  i : Ia.It
  a : Option Addr
  c : Nat
def cells1 (p : Rw) : List Value := [.string p.k, .int .i64 p.i.k, .string p.i.t, .slice p.a p.i.l.length p.c]
def cellsW (P : List Rw) : List Value := P.flatMap cells1
def rowsR (P : List Rw) : Ro :=
  ⟨fun R w => ∀ p ∈ P, (itemR p.a p.c p.i).P R w, fun h hs hr hR hb p hp => (itemR p.a p.c p.i).keep (h p hp) hs hr hR hb⟩
theorem cellsW_len : ∀ (P : List Rw), (cellsW P).length = P.length * 4
  | [] => rfl
  | p :: P => by
    have := cellsW_len P
    show (cells1 p ++ cellsW P).length = _
    rw [List.length_append, this, List.length_cons]
    show 4 + _ = _
    omega
theorem cellsW_app (P Q : List Rw) : cellsW (P ++ Q) = cellsW P ++ cellsW Q := List.flatMap_append ..
theorem cellsW_at : ∀ (P : List Rw) (j : Nat) (hj : j < P.length) (r : Nat), r < 4 → (cellsW P)[j * 4 + r]? = (cells1 P[j])[r]?
  | [], j, hj, _, _ => absurd hj (Nat.not_lt_zero _)
  | p :: P, 0, _, r, hr => by
    show (cells1 p ++ cellsW P)[0 * 4 + r]? = (cells1 p)[r]?
    rw [Nat.zero_mul, Nat.zero_add, List.getElem?_append_left (by show r < 4; exact hr)]
  | p :: P, j + 1, hj, r, hr => by
    have := cellsW_at P j (by simpa using hj) r hr
    show (cells1 p ++ cellsW P)[(j + 1) * 4 + r]? = _
    rw [show (j + 1) * 4 + r = 4 + (j * 4 + r) by omega, List.getElem?_append_right (by show 4 ≤ _; omega)]
    show (cellsW P)[4 + (j * 4 + r) - 4]? = _
    rw [Nat.add_sub_cancel_left, this]
    rfl
theorem cellsW_set : ∀ (P : List Rw) (j : Nat) (hj : j < P.length) (q : Rw), cellsW (P.set j q) = ((((cellsW P).set (j * 4) (.string q.k)).set (j * 4 + 1) (.int .i64 q.i.k)).set (j * 4 + 2) (.string q.i.t)).set (j * 4 + 3) (.slice q.a q.i.l.length q.c)
  | [], j, hj, _ => absurd hj (Nat.not_lt_zero _)
  | p :: P, 0, _, q => rfl
  | p :: P, j + 1, hj, q => by
    have := cellsW_set P j (by simpa using hj) q
    show cells1 p ++ cellsW (P.set j q) = _
    rw [this]
    show _ = ((((cells1 p ++ cellsW P).set ((j + 1) * 4) _).set ((j + 1) * 4 + 1) _).set ((j + 1) * 4 + 2) _).set ((j + 1) * 4 + 3) _
    rw [show (j + 1) * 4 = 4 + j * 4 by omega]
    simp only [Nat.add_assoc]
    show cells1 p ++ _ = ((((cells1 p ++ cellsW P).set (4 + j * 4) _).set (4 + (j * 4 + 1)) _).set (4 + (j * 4 + 2)) _).set (4 + (j * 4 + 3)) _
    rw [List.set_append_right _ _ (by show 4 ≤ _; omega), List.set_append_right _ _ (by show 4 ≤ _; omega), List.set_append_right _ _ (by show 4 ≤ _; omega), List.set_append_right _ _ (by show 4 ≤ _; omega)]
    show _ = cells1 p ++ ((((cellsW P).set (4 + j * 4 - 4) _).set (4 + (j * 4 + 1) - 4) _).set (4 + (j * 4 + 2) - 4) _).set (4 + (j * 4 + 3) - 4) _
    simp only [Nat.add_sub_cancel_left]
theorem cellsW_take (P : List Rw) (n : Nat) : (cellsW P).take (n * 4) = cellsW (P.take n) := by
  have h : cellsW P = cellsW (P.take n) ++ cellsW (P.drop n) := by rw [← cellsW_app, List.take_append_drop]
  by_cases hn : n ≤ P.length
  · rw [h]
    have hl : (cellsW (P.take n)).length = n * 4 := by rw [cellsW_len, List.length_take, Nat.min_eq_left hn]
    rw [← hl]; exact List.take_left
  · rw [List.take_of_length_le (by rw [cellsW_len]; omega), List.take_of_length_le (by omega)]
theorem cells1_one (p : Rw) : ∀ u ∈ cells1 p, u.oneCell' = true := by
  intro u hu
  simp only [cells1, List.mem_cons, List.not_mem_nil, or_false] at hu
  rcases hu with rfl | rfl | rfl | rfl <;> rfl
/-- Which place each key has. -/
def TabOf (f : ByteArray → Option Int) (P : List Rw) : Prop := ∀ k n, f k = some n ↔ ∃ j, ∃ hj : j < P.length, P[j].k = k ∧ (j : Int) = n
theorem TabOf.nil : TabOf (fun _ => none) [] := fun k n => by simp
theorem TabOf.inj {f : ByteArray → Option Int} {P : List Rw} (h : TabOf f P) {i j : Nat} (hi : i < P.length) (hj : j < P.length) (e : P[i].k = P[j].k) : i = j := by
  have h1 := (h P[i].k i).2 ⟨i, hi, rfl, rfl⟩
  have h2 := (h P[i].k j).2 ⟨j, hj, e.symm, rfl⟩
  rw [h1] at h2
  have := Option.some.inj h2
  omega
theorem TabOf.nodup {f : ByteArray → Option Int} {P : List Rw} (h : TabOf f P) : (P.map (·.k)).Nodup := by
  refine List.pairwise_iff_getElem.2 fun i j hi hj hij e => ?_
  rw [List.length_map] at hi hj
  have := h.inj hi hj (by simpa using e)
  omega
theorem TabOf.some {f : ByteArray → Option Int} {P : List Rw} (h : TabOf f P) {j : Nat} (hj : j < P.length) : f P[j].k = .some (j : Int) := (h _ _).2 ⟨j, hj, rfl, rfl⟩
theorem TabOf.mem {f : ByteArray → Option Int} {P : List Rw} (h : TabOf f P) (k : ByteArray) : (f k).isSome = true ↔ k ∈ P.map (·.k) := by
  constructor
  · intro hs
    obtain ⟨n, hn⟩ := Option.isSome_iff_exists.1 hs
    obtain ⟨j, hj, e, -⟩ := (h k n).1 hn
    rw [← e]
    exact List.mem_map_of_mem (List.getElem_mem hj)
  · intro hm
    obtain ⟨p, hp, rfl⟩ := List.mem_map.1 hm
    obtain ⟨j, hj, rfl⟩ := List.mem_iff_getElem.1 hp
    rw [h.some hj]; rfl
theorem TabOf.push {f : ByteArray → Option Int} {P : List Rw} (h : TabOf f P) {q : Rw} (hq : f q.k = none) : TabOf (putF f q.k (.some (P.length : Int))) (P ++ [q]) := fun k n => by
  unfold putF
  by_cases e : k = q.k
  · subst e
    rw [if_pos rfl]
    constructor
    · intro h1
      exact ⟨P.length, by simp, by simp, Option.some.inj h1⟩
    · rintro ⟨j, hj, e1, e2⟩
      by_cases hjP : j < P.length
      · rw [List.getElem_append_left hjP] at e1
        have := h.some hjP
        rw [e1, hq] at this
        cases this
      · rw [List.length_append] at hj
        have hj : j < P.length + 1 := hj
        obtain rfl : j = P.length := by omega
        rw [e2]
  · rw [if_neg e, h]
    constructor
    · rintro ⟨j, hj, e1, e2⟩
      exact ⟨j, by rw [List.length_append]; exact Nat.lt_add_right _ hj, by rw [List.getElem_append_left hj]; exact e1, e2⟩
    · rintro ⟨j, hj, e1, e2⟩
      by_cases hjP : j < P.length
      · rw [List.getElem_append_left hjP] at e1
        exact ⟨j, hjP, e1, e2⟩
      · rw [List.length_append] at hj
        have hj : j < P.length + 1 := hj
        obtain rfl : j = P.length := by omega
        simp at e1
        exact absurd e1.symm e
theorem TabOf.set {f : ByteArray → Option Int} {P : List Rw} (h : TabOf f P) {j : Nat} (hj : j < P.length) {q : Rw} (hq : q.k = P[j].k) : TabOf f (P.set j q) := fun k n => by
  rw [h]
  have hk : ∀ i (hi : i < P.length), ((P.set j q)[i]'(by rw [List.length_set]; exact hi)).k = P[i].k := fun i hi => by
    by_cases e : i = j
    · subst e; rw [List.getElem_set_self, hq]
    · rw [List.getElem_set_ne (Ne.symm e)]
  constructor
  · rintro ⟨i, hi, e1, e2⟩
    exact ⟨i, by rw [List.length_set]; exact hi, by rw [hk i hi]; exact e1, e2⟩
  · rintro ⟨i, hi, e1, e2⟩
    have hi' : i < P.length := by rw [List.length_set] at hi; exact hi
    rw [hk i hi'] at e1
    exact ⟨i, hi', e1, e2⟩
/-- The last row in the place of one that goes. -/
def fillP (P : List Rw) (j : Nat) : List Rw := match P.getLast? with
  | none => []
  | .some z => (P.set j z).dropLast
theorem fillP_eq {P : List Rw} {j n : Nat} (hl : P.length = n + 1) : fillP P j = (P.set j (P[n]'(by omega))).take n := by
  unfold fillP
  have h1 : P.getLast? = .some (P[n]'(by omega)) := by
    rw [List.getLast?_eq_getElem?, show P.length - 1 = n by omega, List.getElem?_eq_getElem]
  rw [h1]
  show (P.set j _).dropLast = _
  rw [List.dropLast_eq_take, List.length_set, show P.length - 1 = n by omega]
theorem fillP_len {P : List Rw} {j n : Nat} (hl : P.length = n + 1) : (fillP P j).length = n := by
  rw [fillP_eq hl, List.length_take, List.length_set]; omega
theorem fillP_at {P : List Rw} {j n : Nat} (hl : P.length = n + 1) {i : Nat} (hi : i < n) : (fillP P j)[i]'(by rw [fillP_len hl]; exact hi) = if i = j then P[n]'(by omega) else P[i]'(by omega) := by
  simp only [fillP_eq hl, List.getElem_take, List.getElem_set]
  by_cases e : i = j
  · rw [if_pos e, if_pos e.symm]
  · rw [if_neg e, if_neg (Ne.symm e)]
theorem TabOf.fill {f : ByteArray → Option Int} {P : List Rw} (h : TabOf f P) {j n : Nat} (hj : j < P.length) (hl : P.length = n + 1) : TabOf (putF (putF f (P[n]'(by omega)).k (.some (j : Int))) P[j].k none) (fillP P j) := fun k m => by
  have hn : n < P.length := by omega
  have hat := fun i (hi : i < n) => fillP_at (j := j) hl hi
  unfold putF
  constructor
  · intro h1
    by_cases e1 : k = P[j].k
    · rw [if_pos e1] at h1; cases h1
    · rw [if_neg e1] at h1
      by_cases e2 : k = P[n].k
      · rw [if_pos e2] at h1
        have hjn : j < n := by
          rcases Nat.lt_or_ge j n with hh | hh
          · exact hh
          · obtain rfl : j = n := by omega
            exact absurd e2 e1
        exact ⟨j, by rw [fillP_len hl]; exact hjn, by rw [hat j hjn, if_pos rfl, e2], Option.some.inj h1⟩
      · rw [if_neg e2] at h1
        obtain ⟨i, hi, e3, e4⟩ := (h k m).1 h1
        have hin : i < n := by
          rcases Nat.lt_or_ge i n with hh | hh
          · exact hh
          · obtain rfl : i = n := by omega
            exact absurd e3.symm e2
        have hij : i ≠ j := fun e => e1 (by rw [← e3]; subst e; rfl)
        exact ⟨i, by rw [fillP_len hl]; exact hin, by rw [hat i hin, if_neg hij]; exact e3, e4⟩
  · rintro ⟨i, hi, e1, e2⟩
    rw [fillP_len hl] at hi
    rw [hat i hi] at e1
    by_cases hij : i = j
    · subst hij
      rw [if_pos rfl] at e1
      have hne : ¬ k = P[i].k := fun e => by
        have := h.inj hn hj (by rw [e1, e])
        omega
      rw [if_neg hne, if_pos e1.symm, e2]
    · rw [if_neg hij] at e1
      have hne : ¬ k = P[j].k := fun e => hij (h.inj (i := i) (by omega) hj (by rw [e1, e]))
      have hne2 : ¬ k = P[n].k := fun e => by
        have := h.inj (i := i) (j := n) (by omega) hn (by rw [e1, e])
        omega
      rw [if_neg hne, if_neg hne2]
      exact (h k m).2 ⟨i, by omega, e1, e2⟩
theorem fillP_perm {P : List Rw} {j n : Nat} (hj : j < P.length) (hl : P.length = n + 1) : List.Perm P (P[j] :: fillP P j) := by
  obtain ⟨Q, z, rfl⟩ : ∃ Q z, P = Q ++ [z] := ⟨P.dropLast, P.getLast (by intro e; rw [e] at hl; cases hl), (List.dropLast_concat_getLast _).symm⟩
  have hQ : Q.length = n := by simpa using hl
  have h1 : fillP (Q ++ [z]) j = ((Q ++ [z]).set j z).dropLast := by unfold fillP; simp
  rw [h1]
  by_cases hjQ : j < Q.length
  · rw [List.set_append_left _ _ hjQ, List.dropLast_concat, List.getElem_append_left hjQ]
    have h2 := Ea.set_perm hjQ z
    have h3 := Ea.erase_perm hjQ
    exact (List.perm_append_comm (l₁ := Q) (l₂ := [z])).trans ((h3.symm.cons z).trans ((List.Perm.swap ..).trans (h2.symm.cons _)))
  · obtain rfl : j = Q.length := by simp at hj; omega
    rw [List.set_append_right _ _ (Nat.le_refl _)]
    simp
/-- Events as they lie. -/
def cellsE (l : List (Int × ByteArray)) : List Value := l.flatMap fun e => [.int .i64 e.1, .string e.2]
theorem cellsE_app (l r : List (Int × ByteArray)) : cellsE (l ++ r) = cellsE l ++ cellsE r := List.flatMap_append ..
end Go.Proofs.YtmjlhmohglbecaaGreatDoor.Sa
