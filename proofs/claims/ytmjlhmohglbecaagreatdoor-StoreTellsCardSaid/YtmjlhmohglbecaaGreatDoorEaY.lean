/- The checking package of layer 11: Drop, Get, Due, Same. Conditions: dues as they lie; bounds. -/
import Derived.Test.YtmjlhmohglbecaaGreatDoorEaX
import Derived.Laws.StructEq
namespace Go.Proofs.YtmjlhmohglbecaaGreatDoor.Ea
open Go.ChangeShapes Go.WideShapes Go.ChangeAt Go.RowKit
theorem beq_ne {x y : ByteArray} (h : x ≠ y) : (x.toList == y.toList) = false := by
  rw [beq_eq_false_iff_ne]
  exact fun e => h (ba_eq e)
theorem rowD_made (w : World) : RowD w (w.alloc (.cells #[] 145)) (.slice (some ⟨w.heap.size, 0, none⟩) 0 0) [] := ⟨World.ownsRow_made w #[] 0 (Nat.le_refl _) (Nat.zero_le _) rfl, bbox _⟩
theorem dropD_take {k : ByteArray} {l : List Du} {j : Nat} (hj : j < l.length) : dropD k (l.take (j + 1)) = dropD k (l.take j) ++ (if l[j].2 = k then [] else [l[j]]) := by
  unfold dropD
  rw [← List.take_append_getElem hj, List.filter_append]
  congr 1
  by_cases h : l[j].2 = k <;> simp [h]
theorem getD_at {l : List Du} {k : ByteArray} {j : Nat} (hj : j < l.length) (h : ∀ m (hm : m < l.length), m < j → l[m].2 ≠ k) (e : l[j].2 = k) : getD k l = l[j].1 ∧ inD k l = true := by
  have h1 : l.find? (fun d => decide (d.2 = k)) = some l[j] := by
    have hs : l = l.take j ++ l[j] :: l.drop (j + 1) := by
      rw [List.getElem_cons_drop, List.take_append_drop]
    refine (congrArg (List.find? fun d => decide (d.2 = k)) hs).trans ?_
    rw [List.find?_append]
    have h2 : (l.take j).find? (fun d => decide (d.2 = k)) = none := by
      rw [List.find?_eq_none]
      intro x hx
      obtain ⟨m, hm, rfl⟩ := List.mem_iff_getElem.1 hx
      rw [List.length_take] at hm
      rw [List.getElem_take]
      have := h m (by omega) (by omega)
      simpa using this
    rw [h2, List.find?_cons_of_pos (by simpa using e)]; rfl
  refine ⟨?_, ?_⟩
  · unfold getD; rw [h1]; rfl
  · exact inD_iff.2 (by rw [← e]; exact List.mem_map_of_mem (List.getElem_mem hj))
theorem getD_end {l : List Du} {k : ByteArray} (h : ∀ m (hm : m < l.length), l[m].2 ≠ k) : getD k l = 0 ∧ inD k l = false := by
  have hn : ∀ x ∈ l, x.2 ≠ k := fun x hx => by
    obtain ⟨m, hm, rfl⟩ := List.mem_iff_getElem.1 hx
    exact h m hm
  refine ⟨?_, ?_⟩
  · unfold getD
    rw [List.find?_eq_none.2 fun x hx => by have := hn x hx; simpa using this]; rfl
  · cases e : inD k l with
    | false => rfl
    | true =>
      obtain ⟨x, hx, e2⟩ := List.mem_map.1 (inD_iff.1 e)
      exact absurd e2 (hn x hx)
theorem neqD (w : World) (z t : Int) (x y : ByteArray) : (binOp .neq 145 (.agg #[.int .i64 z, .string x]) (.agg #[.int .i64 t, .string y])).run Tryz.prog w = .ok (.bool (!((z == t) && (x.toList == y.toList)))) w := by
  have hS : Tryz.prog.underlying 145 = some (.struct (Tryz.prog.fieldsOf 145)) := by kernel_rfl
  have hp : Tryz.prog.stoodInHeld 145 = false := by kernel_rfl
  rw [run_neq_struct, show (10000 : Nat) = 9999 + 1 from rfl, run_equalIn_agg w 9999 145 _ _ hS hp]
  have u1 : Tryz.prog.underlying 9 = some .string := by kernel_rfl
  have u2 : Tryz.prog.underlying 2 = some (.int .i64) := by kernel_rfl
  have uM := Tryz.underlying145
  simp only [Program.fieldsOf, uM]
  go_simp
  by_cases h1 : x.toList = y.toList <;> by_cases h2 : z = t <;> simp [h1, h2]
theorem neqD_same (w : World) (z : Int) (x : ByteArray) : (binOp .neq 145 (.agg #[.int .i64 z, .string x]) (.agg #[.int .i64 z, .string x])).run Tryz.prog w = .ok (.bool false) w := by
  rw [neqD]; simp
end Go.Proofs.YtmjlhmohglbecaaGreatDoor.Ea
/- The checking package of layer 11: Due, Put. Conditions: dues as they lie; bounds. -/
namespace Go.Proofs.YtmjlhmohglbecaaGreatDoor.Ea
open Go.ChangeShapes Go.WideShapes Go.ChangeAt Go.RowKit
theorem rowT_made0 (w : World) : RowT w (w.alloc (.cells #[] 9)) (.slice (some ⟨w.heap.size, 0, none⟩) 0 0) [] := ⟨World.ownsRow_made w #[] 0 (Nat.le_refl _) (Nat.zero_le _) rfl, bbox _⟩
theorem dueD_take {now : Int} {most : Nat} {l : List Du} {j : Nat} (hj : j < l.length) : dueD now most (l.take (j + 1)) = dueD now most (l.take j) ++ (if l[j].1 ≤ now ∧ (dueD now most (l.take j)).length < most then [l[j]] else []) := by
  unfold dueD
  rw [← List.take_append_getElem hj, List.filter_append, List.take_append]
  have e : (([l[j]] : List Du).filter fun d => decide (d.1 ≤ now)) = if l[j].1 ≤ now then [l[j]] else [] := by
    by_cases h : l[j].1 ≤ now <;> simp [h]
  rw [e]
  congr 1
  rw [List.length_take]
  by_cases h : l[j].1 ≤ now
  · rw [if_pos h]
    by_cases h2 : ((l.take j).filter fun d => decide (d.1 ≤ now)).length < most
    · rw [if_pos ⟨h, by omega⟩]
      exact List.take_of_length_le (by simp; omega)
    · rw [if_neg (fun hh => by have := hh.2; omega)]
      have : most - ((l.take j).filter fun d => decide (d.1 ≤ now)).length = 0 := by omega
      rw [this]; rfl
  · rw [if_neg h, if_neg (fun hh => h hh.1)]; simp
theorem insD_at {d : Du} : ∀ {L : List Du} {j : Nat} (hj : j < L.length), (∀ m (hm : m < L.length), m < j → ltE d L[m] = false) → ltE d L[j] = true → insD d L = L.take j ++ d :: L.drop j
  | [], j, hj, _, _ => absurd hj (Nat.not_lt_zero _)
  | x :: r, 0, _, _, h => by
    show (if ltE d x = true then d :: x :: r else x :: insD d r) = _
    rw [if_pos (show ltE d x = true from h)]; rfl
  | x :: r, j + 1, hj, h1, h2 => by
    have h0 : ltE d x = false := h1 0 (by simp) (by omega)
    show (if ltE d x = true then d :: x :: r else x :: insD d r) = _
    rw [if_neg (by rw [h0]; decide)]
    exact congrArg (x :: ·) (insD_at (by simpa using hj) (fun m hm hlt => h1 (m + 1) (by simpa using hm) (by omega)) h2)
theorem insD_end {d : Du} : ∀ {L : List Du}, (∀ m (hm : m < L.length), ltE d L[m] = false) → insD d L = L ++ [d]
  | [], _ => rfl
  | x :: r, h1 => by
    have h0 : ltE d x = false := h1 0 (by simp)
    show (if ltE d x = true then d :: x :: r else x :: insD d r) = _
    rw [if_neg (by rw [h0]; decide)]
    exact congrArg (x :: ·) (insD_end fun m hm => h1 (m + 1) (by simpa using hm))
/-- What the loop keeps: placed or not yet. -/
def Pls (d : Du) (L : List Du) (j : Nat) (p : Bool) (out : List Du) : Prop := if p = true then out ++ L.drop j = insD d L else out = L.take j ∧ ∀ m (hm : m < L.length), m < j → ltE d L[m] = false
section
variable {d : Du} {L out : List Du} {j : Nat}
theorem Pls.go (h : Pls d L j true out) (hj : j < L.length) : Pls d L (j + 1) true (out ++ [L[j]]) := by
  unfold Pls at h ⊢
  rw [if_pos rfl] at h ⊢
  rw [← h, List.append_assoc]
  congr 1
  exact List.getElem_cons_drop hj
theorem Pls.skip (h : Pls d L j false out) (hj : j < L.length) (hl : ltE d L[j] = false) : Pls d L (j + 1) false (out ++ [L[j]]) := by
  unfold Pls at h ⊢
  rw [if_neg (by decide)] at h ⊢
  obtain ⟨h1, h2⟩ := h
  refine ⟨by rw [h1, List.take_append_getElem hj], fun m hm hlt => ?_⟩
  by_cases e : m = j
  · subst e; exact hl
  · exact h2 m hm (by omega)
theorem Pls.hit (h : Pls d L j false out) (hj : j < L.length) (hl : ltE d L[j] = true) : Pls d L (j + 1) true (out ++ [d] ++ [L[j]]) := by
  unfold Pls at h ⊢
  rw [if_neg (by decide)] at h
  rw [if_pos rfl]
  obtain ⟨h1, h2⟩ := h
  rw [insD_at hj h2 hl, h1, List.append_assoc, List.append_assoc]
  congr 1
  rw [List.singleton_append, List.singleton_append, List.getElem_cons_drop]
theorem Pls.done (h : Pls d L L.length true out) : out = insD d L := by
  unfold Pls at h
  rw [if_pos rfl, List.drop_length, List.append_nil] at h
  exact h
theorem Pls.last (h : Pls d L L.length false out) : out ++ [d] = insD d L := by
  unfold Pls at h
  rw [if_neg (by decide)] at h
  obtain ⟨h1, h2⟩ := h
  rw [insD_end fun m hm => h2 m hm hm, h1, List.take_length]
theorem Pls.len {p : Bool} (h : Pls d L j p out) (hj : j ≤ L.length) : out.length ≤ L.length + 1 := by
  unfold Pls at h
  split at h
  · have := congrArg List.length h
    rw [List.length_append, len_insD] at this
    omega
  · rw [h.1, List.length_take]; omega
end
/-- What lay in a box stands behind an append to another row. -/
theorem box_after {wb wr w5 : World} {v : Value} {l : List Du} {arr : Array Value} {T1 : TypeId} {O : Obj} (h : RowD wb wr v l) (hg : ((wr.alloc (.cells arr T1)).alloc O).grownBy w5 v.ownBlock) (i : Nat) : w5.cell? ⟨wr.heap.size, i, none⟩ = arr[i]? := by
  have hb : w5.heap[wr.heap.size]? = ((wr.alloc (.cells arr T1)).alloc O).heap[wr.heap.size]? := hg.block _ (by simp; omega) (fun e => by
    have := row_lt h.row e.symm
    omega)
  have h1 := World.cell?_of_block (a := ⟨wr.heap.size, i, none⟩) hb
  rw [h1, (bbox (w := wr.alloc (.cells arr T1)) O).cell (p := ⟨wr.heap.size, i, none⟩) (by show wr.heap.size < _; simp)]
  exact World.cell?_alloc_new wr arr T1 i
end Go.Proofs.YtmjlhmohglbecaaGreatDoor.Ea
/- The checking package of layer 11: Put. Conditions: dues as they lie; bounds. -/
namespace Go.Proofs.YtmjlhmohglbecaaGreatDoor.Ea
open Go.ChangeShapes Go.WideShapes Go.ChangeAt Go.RowKit
theorem RowD.box {wb wr : World} {v : Value} {l : List Du} (h : RowD wb wr v l) (t : Int) (q : ByteArray) : RowD wb (wr.alloc (.cells #[.int .i64 t, .string q] 145)) v l := h.below (bbox _)
end Go.Proofs.YtmjlhmohglbecaaGreatDoor.Ea
/- Package expiry: the object beside dues of the caller's (EC): its calls in one form; the chapter's example. Conditions: bounds. -/
namespace Go.Proofs.YtmjlhmohglbecaaGreatDoor.Ea
open Go.ChangeShapes Go.WideShapes Go.ChangeAt Go.RowKit Go.Maps Go.WideMaps
theorem insD_perm {d : Du} : ∀ {S : List Du}, List.Perm (insD d S) (d :: S)
  | [] => List.Perm.refl _
  | y :: r => by
    unfold insD
    split
    · exact List.Perm.refl _
    · exact (List.Perm.cons y insD_perm).trans (List.Perm.swap ..)
theorem drop_perm {S R : List Du} {d : Du} {k : ByteArray} (h : List.Perm S (d :: R)) (hd : d.2 = k) (hR : ∀ r ∈ R, r.2 ≠ k) : List.Perm (dropD k S) R := by
  have h1 : List.Perm (dropD k S) (dropD k (d :: R)) := h.filter _
  have h2 : dropD k (d :: R) = R := by
    unfold dropD
    rw [List.filter_cons_of_neg (by simp [hd])]
    exact List.filter_eq_self.2 fun r hr => by simpa using hR r hr
  rw [h2] at h1; exact h1
theorem drop_none {S : List Du} {k : ByteArray} (h : ∀ d ∈ S, d.2 ≠ k) : dropD k S = S := List.filter_eq_self.2 fun r hr => by simpa using h r hr
theorem erase_perm {α : Type} : ∀ {l : List α} {j : Nat} (hj : j < l.length), List.Perm (l[j] :: l.eraseIdx j) l
  | [], j, hj => absurd hj (Nat.not_lt_zero _)
  | x :: r, 0, _ => List.Perm.refl _
  | x :: r, j + 1, hj => (List.Perm.swap ..).trans ((erase_perm (l := r) (by simpa using hj)).cons x)
theorem set_perm {α : Type} : ∀ {l : List α} {j : Nat} (_hj : j < l.length) (a : α), List.Perm (l.set j a) (a :: l.eraseIdx j)
  | [], j, hj, _ => absurd hj (Nat.not_lt_zero _)
  | x :: r, 0, _, a => List.Perm.refl _
  | x :: r, j + 1, hj, a => ((set_perm (l := r) (by simpa using hj) a).cons x).trans (List.Perm.swap ..)
section
variable {l l' : List En} {S : List Du}
theorem keysS (h : (l.map (·.k)).Nodup) (hp : List.Perm (l.map En.d) S) : (S.map (·.2)).Nodup := by
  refine ((hp.map (·.2)).nodup_iff).1 ?_
  rw [List.map_map]; exact h
theorem inD_look (h : (l.map (·.k)).Nodup) (hp : List.Perm (l.map En.d) S) (k : ByteArray) : inD k S = (look l k).isSome := by
  cases e : look l k with
  | none =>
    have hn := look_none.1 e
    cases e2 : inD k S with
    | false => rfl
    | true =>
      obtain ⟨d, hd, hk⟩ := List.mem_map.1 (inD_iff.1 e2)
      obtain ⟨x, hx, rfl⟩ := List.mem_map.1 (hp.mem_iff.2 hd)
      exact absurd hk (hn x hx)
  | some b =>
    obtain ⟨x, hx, rfl, -⟩ := (look_mem h).1 e
    exact inD_iff.2 (List.mem_map.2 ⟨x.d, hp.mem_iff.1 (List.mem_map_of_mem hx), rfl⟩)
theorem getD_one {S : List Du} (hS : (S.map (·.2)).Nodup) {t : Int} {k : ByteArray} (h : (t, k) ∈ S) : getD k S = t := by
  unfold getD
  cases e : S.find? fun d => decide (d.2 = k) with
  | none =>
    have := List.find?_eq_none.1 e _ h
    simp at this
  | some x =>
    have h1 := List.find?_some e
    simp only [decide_eq_true_eq] at h1
    have h2 := List.mem_of_find?_eq_some e
    obtain ⟨i, hi, e1⟩ := List.mem_iff_getElem.1 h2
    obtain ⟨j, hj, e2⟩ := List.mem_iff_getElem.1 h
    have h3 : i = j := (List.getElem_inj (h₀ := by rw [List.length_map]; exact hi) (h₁ := by rw [List.length_map]; exact hj) hS (i := i) (j := j)).1 (by simp [e1, e2, h1])
    subst h3
    rw [← e1, e2]; rfl
theorem getD_none {S : List Du} {k : ByteArray} (h : inD k S = false) : getD k S = 0 := by
  unfold getD
  rw [List.find?_eq_none.2 fun x hx => by
    intro hk
    have : inD k S = true := List.any_eq_true.2 ⟨x, hx, hk⟩
    rw [h] at this; cases this]
  rfl
theorem erase_keys (h : (l.map (·.k)).Nodup) {j : Nat} (hj : j < l.length) : ∀ r ∈ (l.eraseIdx j).map En.d, r.2 ≠ l[j].k := fun r hr e => by
  obtain ⟨x, hx, rfl⟩ := List.mem_map.1 hr
  have hp := erase_perm hj
  have h1 := nodup_perm h hp
  rw [List.map_cons] at h1
  exact (List.nodup_cons.1 h1).1 (by rw [← show x.k = l[j].k from e]; exact List.mem_map_of_mem hx)
theorem perm_put (h : (l.map (·.k)).Nodup) (hp : List.Perm (l.map En.d) S) {j : Nat} (hj : j < l.length) {t : Int} (hl : List.Perm l' (l.set j ⟨l[j].b, t, l[j].k⟩)) : List.Perm (l'.map En.d) (putD l[j].k t S) := by
  have h1 : List.Perm S (l[j].d :: (l.eraseIdx j).map En.d) := hp.symm.trans ((erase_perm hj).map En.d).symm
  have h2 := drop_perm h1 (k := l[j].k) rfl (erase_keys h hj)
  have h3 : List.Perm (l'.map En.d) ((t, l[j].k) :: (l.eraseIdx j).map En.d) := (hl.map En.d).trans ((set_perm hj _).map En.d)
  exact h3.trans ((h2.cons _).symm.trans insD_perm.symm)
theorem perm_new (hp : List.Perm (l.map En.d) S) {k : ByteArray} (hk : look l k = none) {b : Nat} {t : Int} (hl : List.Perm l' (l ++ [⟨b, t, k⟩])) : List.Perm (l'.map En.d) (putD k t S) := by
  have hn : ∀ d ∈ S, d.2 ≠ k := fun d hd => by
    obtain ⟨x, hx, rfl⟩ := List.mem_map.1 (hp.mem_iff.2 hd)
    exact look_none.1 hk x hx
  unfold putD
  rw [drop_none hn]
  have h1 : List.Perm (l'.map En.d) (l.map En.d ++ [(t, k)]) := by
    have := hl.map En.d
    rw [List.map_append] at this
    exact this
  exact h1.trans ((List.perm_append_comm (l₁ := l.map En.d) (l₂ := [(t, k)])).trans ((hp.cons _).trans insD_perm.symm))
theorem perm_drop (h : (l.map (·.k)).Nodup) (hp : List.Perm (l.map En.d) S) {e : En} (hl : List.Perm (l' ++ [e]) l) : List.Perm (l'.map En.d) (dropD e.k S) := by
  have h1 : List.Perm (l.map En.d) (e.d :: l'.map En.d) := by
    have := (hl.map En.d).symm
    rw [List.map_append] at this
    exact this.trans List.perm_append_comm
  have h2 := nodup_perm h hl
  rw [List.map_append] at h2
  refine (drop_perm (hp.symm.trans h1) rfl fun r hr e2 => ?_).symm
  obtain ⟨x, hx, rfl⟩ := List.mem_map.1 hr
  exact (List.nodup_append.1 h2).2.2 _ (List.mem_map_of_mem hx) e.k (by simp) e2
theorem head_of (hH : Hp (leB ltN) l l.length) (hS : UpD S) (hp : List.Perm (l.map En.d) S) (hl : 0 < l.length) : ∃ R, S = l[0].d :: R := by
  cases S with
  | nil =>
    have := hp.length_eq
    rw [List.length_map] at this
    simp at this
    subst this
    simp at hl
  | cons d R =>
    refine ⟨R, ?_⟩
    have hd : d ∈ l.map En.d := hp.mem_iff.2 (List.mem_cons_self ..)
    obtain ⟨e, he, rfl⟩ := List.mem_map.1 hd
    obtain ⟨i, hi, rfl⟩ := List.mem_iff_getElem.1 he
    have h0 : l[0].d ∈ l[i].d :: R := hp.mem_iff.1 (List.mem_map_of_mem (List.getElem_mem hl))
    have hmin : ltE l[i].d l[0].d = false := hH.first ordN (Nat.le_refl _) i hi _ _ (List.getElem?_eq_getElem hl) (List.getElem?_eq_getElem hi)
    rcases List.mem_cons.1 h0 with e | e
    · rw [e]
    · have := (List.pairwise_cons.1 hS).1 _ e
      rw [hmin] at this; cases this
end
def badT (t : Int) : Bool := decide (t < 0) || decide (4611686018427387904 < t)
theorem badT_iff {t : Int} : badT t = true ↔ t < 0 ∨ 4611686018427387904 < t := by simp [badT]
def putT (k : ByteArray) (t : Int) (S : List Du) : List Du := if badT t = true then S else putD k t S
def errT (t : Int) : Int := if badT t = true then 111 else 0
theorem RowD.at_ge {wb w : World} {a : Option Addr} {n c : Nat} {l : List Du} (h : RowD wb w (.slice a n c) l) (_hl : 0 < l.length) {g i : Nat} (e : a = some ⟨g, i, none⟩) : wb.heap.size ≤ g := (h.row.lt g (by rw [e]; rfl)).1
/-- At T the object with the dues S, all of it new since o; at a the dues G, in none of its blocks; nor are those that Z names. -/
def EC (o : World) (T : Nat) (w : World) (S : List Du) (a : Option Addr) (G : List Du) (Z : Nat → Prop) : Prop :=
  ∃ M v l D, XA w T M v l D ∧ List.Perm (l.map En.d) S ∧ UpD S ∧ (∀ d ∈ S, d.1 ≤ 4611686018427387904) ∧ (∀ x, own T M v l x → o.heap.size ≤ x) ∧ Below o.heap.size o w ∧ InD w a G ∧ (∀ g i, 0 < G.length → a = some ⟨g, i, none⟩ → ¬ own T M v l g) ∧ ∀ x, Z x → x < w.heap.size ∧ ¬ own T M v l x
/-- What Z names stands. -/
def Keeps (Z : Nat → Prop) (w w' : World) : Prop := ∀ x, Z x → w'.heap[x]? = w.heap[x]?
theorem Keeps.cell {Z : Nat → Prop} {w w' : World} (h : Keeps Z w w') {x i : Nat} {v : Value} (hx : Z x) (hb : w.cell? ⟨x, i, none⟩ = some v) : w'.cell? ⟨x, i, none⟩ = some v := by
  have := h x hx
  simp only [World.cell?, this] at hb ⊢
  exact hb
section
variable {o w w' : World} {T : Nat} {S : List Du} {a : Option Addr} {G : List Du} {Z : Nat → Prop}
theorem EC.bel (h : EC o T w S a G Z) (hb : Below w.heap.size w w') : EC o T w' S a G Z := by
  obtain ⟨M, v, l, D, h1, h2, h3, h4, h5, h6, h7, h8, h9⟩ := h
  exact ⟨M, v, l, D, h1.below hb, h2, h3, h4, h5, bstep h6 (hb.mono (Nat.le_refl _)), h7.below (Nat.le_refl _) hb, h8, fun x hx => ⟨Nat.lt_of_lt_of_le (h9 x hx).1 hb.size, (h9 x hx).2⟩⟩
theorem EC.below (h : EC o T w S a G Z) : Below o.heap.size o w := by
  obtain ⟨M, v, l, D, -, -, -, -, -, h6, -⟩ := h
  exact h6
theorem EC.list (h : EC o T w S a G Z) : InD w a G := by
  obtain ⟨M, v, l, D, -, -, -, -, -, -, h7, -⟩ := h
  exact h7
theorem EC.up (h : EC o T w S a G Z) : UpD S := by
  obtain ⟨M, v, l, D, -, -, h3, -⟩ := h
  exact h3
/-- Another list, a new one. -/
theorem EC.swap (h : EC o T w S a G Z) {a' : Option Addr} {G' : List Du} (hb : Below w.heap.size w w') (hI : InD w' a' G') (hO : ∀ g i, 0 < G'.length → a' = some ⟨g, i, none⟩ → w.heap.size ≤ g) : EC o T w' S a' G' Z := by
  obtain ⟨M, v, l, D, h1, h2, h3, h4, h5, h6, -, -, h9⟩ := h
  refine ⟨M, v, l, D, h1.below hb, h2, h3, h4, h5, bstep h6 hb, hI, fun g i hg e ho => ?_, fun x hx => ⟨Nat.lt_of_lt_of_le (h9 x hx).1 hb.size, (h9 x hx).2⟩⟩
  have := hO g i hg e
  have := h1.lt ho
  omega
theorem EC.nolist (h : EC o T w S a G Z) : EC o T w S none [] Z := by
  obtain ⟨M, v, l, D, h1, h2, h3, h4, h5, h6, -, -, h9⟩ := h
  exact ⟨M, v, l, D, h1, h2, h3, h4, h5, h6, fun hp => absurd hp (by simp), fun g i hg => absurd hg (by simp), h9⟩
/-- One block more, a new one. -/
theorem EC.guard (h : EC o T w S a G Z) (hb : Below w.heap.size w w') {x : Nat} (hx : w.heap.size ≤ x) (hx' : x < w'.heap.size) : EC o T w' S a G (fun y => Z y ∨ y = x) := by
  obtain ⟨M, v, l, D, h1, h2, h3, h4, h5, h6, h7, h8, h9⟩ := h
  refine ⟨M, v, l, D, h1.below hb, h2, h3, h4, h5, bstep h6 hb, h7.below (Nat.le_refl _) hb, h8, fun y hy => ?_⟩
  rcases hy with hy | rfl
  · exact ⟨Nat.lt_of_lt_of_le (h9 y hy).1 hb.size, (h9 y hy).2⟩
  · exact ⟨hx', fun ho => by have := h1.lt ho; omega⟩
theorem EC.less (h : EC o T w S a G Z) {Z' : Nat → Prop} (hz : ∀ x, Z' x → Z x) : EC o T w S a G Z' := by
  obtain ⟨M, v, l, D, h1, h2, h3, h4, h5, h6, h7, h8, h9⟩ := h
  exact ⟨M, v, l, D, h1, h2, h3, h4, h5, h6, h7, h8, fun y hy => h9 y (hz y hy)⟩
theorem EC.moved {M : Nat} {v : Value} {l : List En} {D : DataW Unit} {M' : Nat} {v' : Value} {l' : List En} {D' : DataW Unit} {S' : List Du} (_h1 : XA w T M v l D) (h5 : ∀ x, own T M v l x → o.heap.size ≤ x) (h6 : Below o.heap.size o w) (h7 : InD w a G) (h8 : ∀ g i, 0 < G.length → a = some ⟨g, i, none⟩ → ¬ own T M v l g) (h9 : ∀ x, Z x → x < w.heap.size ∧ ¬ own T M v l x)
    (hm : Mv T M v l w M' v' l' D' w') (hp : List.Perm (l'.map En.d) S') (hu : UpD S') (ht : ∀ d ∈ S', d.1 ≤ 4611686018427387904) : EC o T w' S' a G Z ∧ Keeps Z w w' := by
  refine ⟨⟨M', v', l', D', hm.at_, hp, hu, ht, fun x hx => ?_, ?_, fun hg => ?_, fun g i hg e ho => ?_, fun x hx => ⟨Nat.lt_of_lt_of_le (h9 x hx).1 hm.fr.size, fun ho => ?_⟩⟩, fun x hx => hm.fr.block x (h9 x hx).1 (h9 x hx).2⟩
  · rcases hm.own x hx with h | h
    · exact h5 x h
    · have := h6.size; omega
  · exact h6.trans (hm.fr.below h6.size (fun i hi ho => by have := h5 i ho; omega))
  · obtain ⟨b, i, e, hlt, hc⟩ := h7 hg
    have hn := h8 b i hg e
    have hbl := hm.fr.block b hlt hn
    refine ⟨b, i, e, Nat.lt_of_lt_of_le hlt hm.fr.size, fun j hj => ?_⟩
    obtain ⟨c0, c1⟩ := hc j hj
    exact ⟨(World.cell?_of_block (a := ⟨b, i + j * 2, none⟩) hbl).trans c0, (World.cell?_of_block (a := ⟨b, i + j * 2 + 1, none⟩) hbl).trans c1⟩
  · rcases hm.own g ho with h | h
    · exact h8 g i hg e h
    · obtain ⟨b, i', e', hlt, -⟩ := h7 hg
      rw [e] at e'
      cases e'
      omega
  · rcases hm.own x ho with h | h
    · exact (h9 x hx).2 h
    · have := (h9 x hx).1; omega
theorem EC.put (h : EC o T w S a G Z) (k : ByteArray) (hk : k.size ≤ maxLen) (t : Int) (hl : S.length ≤ 100000) :
    Calls Tryz.prog 63 #[.pointer (some ⟨T, 0, none⟩), .string k, .int .i64 t] w fun e w' => e = .returned (.int .i64 (errT t)) ∧ EC o T w' (putT k t S) a G Z ∧ Keeps Z w w' := by
  obtain ⟨M, v, l, D, h1, h2, h3, h4, h5, h6, h7, h8, h9⟩ := h
  have hll : l.length ≤ 1000000 := by have := h2.length_eq; rw [List.length_map] at this; omega
  cases hb : badT t with
  | true =>
    refine (put_bad T k t (badT_iff.1 hb)).mono ?_
    rintro e w' ⟨rfl, rfl⟩
    refine ⟨by unfold errT; rw [if_pos hb], ?_⟩
    unfold putT
    rw [if_pos hb]
    exact EC.moved h1 h5 h6 h7 h8 h9 (Mv.refl h1) h2 h3 h4
  | false =>
    have hnb : ¬ (t < 0 ∨ 4611686018427387904 < t) := fun hh => by rw [badT_iff.2 hh] at hb; cases hb
    rw [not_or] at hnb
    have hb' : ¬ badT t = true := by rw [hb]; decide
    have hmax : ∀ d ∈ putD k t S, d.1 ≤ 4611686018427387904 := fun d hd => by
      rcases mem_insD.1 hd with e | e
      · rw [e]; show t ≤ _; omega
      · exact h4 d (mem_dropD.1 e).1
    cases hlk : look l k with
    | some b =>
      obtain ⟨j, hj, -, e2⟩ := look_idx hlk
      subst e2
      refine (put_some h1 j hj hk hll t hnb.1 hnb.2).mono ?_
      rintro e w' ⟨rfl, v', l', hm, hp⟩
      refine ⟨by unfold errT; rw [if_neg hb'], ?_⟩
      unfold putT
      rw [if_neg hb']
      exact EC.moved h1 h5 h6 h7 h8 h9 hm (perm_put h1.kn h2 hj hp) h3.put hmax
    | none =>
      refine (put_none h1 k hk hll hlk t hnb.1 hnb.2).mono ?_
      rintro e w' ⟨rfl, v', l', D', hm, hp⟩
      refine ⟨by unfold errT; rw [if_neg hb'], ?_⟩
      unfold putT
      rw [if_neg hb']
      exact EC.moved h1 h5 h6 h7 h8 h9 hm (perm_new h2 hlk hp) h3.put hmax
theorem EC.drop (h : EC o T w S a G Z) (k : ByteArray) (hk : k.size ≤ maxLen) (hl : S.length ≤ 100000) :
    Calls Tryz.prog 51 #[.pointer (some ⟨T, 0, none⟩), .string k] w fun e w' => e = .returned (.bool (inD k S)) ∧ EC o T w' (dropD k S) a G Z ∧ Keeps Z w w' := by
  obtain ⟨M, v, l, D, h1, h2, h3, h4, h5, h6, h7, h8, h9⟩ := h
  have hll : l.length ≤ 1000000 := by have := h2.length_eq; rw [List.length_map] at this; omega
  rw [inD_look h1.kn h2]
  cases hlk : look l k with
  | some b =>
    obtain ⟨j, hj, -, e2⟩ := look_idx hlk
    subst e2
    refine (xdrop_some h1 j hj hk hll).mono ?_
    rintro e w' ⟨rfl, v', l', D', hm, hp⟩
    exact ⟨rfl, EC.moved h1 h5 h6 h7 h8 h9 hm (perm_drop h1.kn h2 hp) h3.drop fun d hd => h4 d (mem_dropD.1 hd).1⟩
  | none =>
    refine (xdrop_none h1 k hk hlk).mono ?_
    rintro e w' ⟨rfl, rfl⟩
    have hn : ∀ d ∈ S, d.2 ≠ k := fun d hd => by
      obtain ⟨x, hx, rfl⟩ := List.mem_map.1 (h2.mem_iff.2 hd)
      exact look_none.1 hlk x hx
    rw [drop_none hn]
    exact ⟨rfl, EC.moved h1 h5 h6 h7 h8 h9 (Mv.refl h1) h2 h3 h4⟩
theorem EC.len (h : EC o T w S a G Z) :
    Calls Tryz.prog 169 #[.pointer (some ⟨T, 0, none⟩)] w fun e w' => e = .returned (.int .i64 S.length) ∧ w = w' := by
  obtain ⟨M, v, l, D, h1, h2, -⟩ := h
  have := h2.length_eq
  rw [List.length_map] at this
  rw [← this]
  exact xlen_calls h1
theorem EC.get (h : EC o T w S a G Z) (k : ByteArray) (hk : k.size ≤ maxLen) :
    Calls Tryz.prog 64 #[.pointer (some ⟨T, 0, none⟩), .string k] w fun e w' => e = .returned (.tuple #[.int .i64 (getD k S), .bool (inD k S)]) ∧ w = w' := by
  obtain ⟨M, v, l, D, h1, h2, -⟩ := h
  have hi := inD_look h1.kn h2 k
  cases hlk : look l k with
  | some b =>
    obtain ⟨j, hj, -, e2⟩ := look_idx hlk
    subst e2
    rw [hi, hlk, getD_one (keysS h1.kn h2) (t := l[j].t) (h2.mem_iff.1 (List.mem_map_of_mem (f := En.d) (List.getElem_mem hj)))]
    exact xget_some h1 j hj hk
  | none =>
    rw [hlk] at hi
    rw [getD_none hi, hi]
    exact xget_none h1 k hk hlk
theorem EC.due (h : EC o T w S a G Z) (hl : S.length ≤ 100000) (now most : Int) (hm1 : -9223372036854775808 ≤ most) (hm2 : most ≤ 9223372036854775807) :
    Calls Tryz.prog 65 #[.pointer (some ⟨T, 0, none⟩), .int .i64 now, .int .i64 most] w fun e w' => ∃ v, e = .returned v ∧ RowT w w' v ((dueD now most.toNat S).map (·.2)) := by
  obtain ⟨M, v, l, D, h1, h2, h3, -⟩ := h
  have hll : l.length ≤ 1000000 := by have := h2.length_eq; rw [List.length_map] at this; omega
  exact xdue_calls h1 hll h3 h2 now most hm1 hm2
end
theorem putT_le (k : ByteArray) (t : Int) (S : List Du) : (putT k t S).length ≤ S.length + 1 := by
  unfold putT
  split
  · omega
  · exact putD_le k t S
theorem ec_new (o w : World) (ho : Below o.heap.size o w) :
    Calls Tryz.prog 56 #[] w fun e w' => ∃ T, e = .returned (.pointer (some ⟨T, 0, none⟩)) ∧ EC o T w' [] none [] (fun _ => False) := by
  refine (new_calls w).mono ?_
  rintro e w' ⟨T, M, rfl, h1, h2, h3, h4⟩
  refine ⟨T, rfl, M, _, [], _, h1, List.Perm.refl _, List.Pairwise.nil, (fun d hd => by cases hd), fun x hx => ?_, ho.trans (h2.mono ho.size), fun hp => absurd hp (by simp), fun g i hg => absurd hg (by simp), fun x hx => hx.elim⟩
  have hs := ho.size
  rcases hx with rfl | rfl | hx | ⟨y, hy, -⟩
  · omega
  · omega
  · cases hx
  · cases hy
end Go.Proofs.YtmjlhmohglbecaaGreatDoor.Ea
