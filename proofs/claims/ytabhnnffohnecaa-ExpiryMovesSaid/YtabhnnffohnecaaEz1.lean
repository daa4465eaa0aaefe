/- Package expiry: the object beside dues of the caller's (EC): its calls in one form; the chapter's example. Conditions: bounds. -/
import Derived.Test.YtabhnnffohnecaaEy3
namespace Go.Proofs.Ytabhnnffohnecaa.Ea
open Go.ChangeShapes Go.WideShapes Go.ChangeAt Go.RowKit Go.Maps Go.WideMaps
theorem insD_perm {d : Du} : ∀ {S : List Du}, List.Perm (insD d S) (d :: S)
  | [] => List.Perm.refl _
  | y :: r => by
    unfold insD
    split
    · exact List.Perm.refl _
    · exact (List.Perm.cons y insD_perm).trans (List.Perm.swap ..)
theorem drop_perm {S R : List Du} {d : Du} {k : ByteArray} (h : List.Perm S (d :: R)) (hd : d.2 = k) (hR : ∀ r ∈ R, r.2 ≠ k) : List.Perm (dropD k S) R := by
  have h1 : List.Perm (dropD k S) (dropD k (d :: R)) := h.filter _
  have h2 : dropD k (d :: R) = R := by
    unfold dropD
    rw [List.filter_cons_of_neg (by simp [hd])]
    exact List.filter_eq_self.2 fun r hr => by simpa using hR r hr
  rw [h2] at h1; exact h1
theorem drop_none {S : List Du} {k : ByteArray} (h : ∀ d ∈ S, d.2 ≠ k) : dropD k S = S := List.filter_eq_self.2 fun r hr => by simpa using h r hr
theorem erase_perm {α : Type} : ∀ {l : List α} {j : Nat} (hj : j < l.length), List.Perm (l[j] :: l.eraseIdx j) l
  | [], j, hj => absurd hj (Nat.not_lt_zero _)
  | x :: r, 0, _ => List.Perm.refl _
  | x :: r, j + 1, hj => (List.Perm.swap ..).trans ((erase_perm (l := r) (by simpa using hj)).cons x)
theorem set_perm {α : Type} : ∀ {l : List α} {j : Nat} (_hj : j < l.length) (a : α), List.Perm (l.set j a) (a :: l.eraseIdx j)
  | [], j, hj, _ => absurd hj (Nat.not_lt_zero _)
  | x :: r, 0, _, a => List.Perm.refl _
  | x :: r, j + 1, hj, a => ((set_perm (l := r) (by simpa using hj) a).cons x).trans (List.Perm.swap ..)
section
variable {l l' : List En} {S : List Du}
theorem keysS (h : (l.map (·.k)).Nodup) (hp : List.Perm (l.map En.d) S) : (S.map (·.2)).Nodup := by
  refine ((hp.map (·.2)).nodup_iff).1 ?_
  rw [List.map_map]; exact h
theorem inD_look (h : (l.map (·.k)).Nodup) (hp : List.Perm (l.map En.d) S) (k : ByteArray) : inD k S = (look l k).isSome := by
  cases e : look l k with
  | none =>
    have hn := look_none.1 e
    cases e2 : inD k S with
    | false => rfl
    | true =>
      obtain ⟨d, hd, hk⟩ := List.mem_map.1 (inD_iff.1 e2)
      obtain ⟨x, hx, rfl⟩ := List.mem_map.1 (hp.mem_iff.2 hd)
      exact absurd hk (hn x hx)
  | some b =>
    obtain ⟨x, hx, rfl, -⟩ := (look_mem h).1 e
    exact inD_iff.2 (List.mem_map.2 ⟨x.d, hp.mem_iff.1 (List.mem_map_of_mem hx), rfl⟩)
theorem getD_one {S : List Du} (hS : (S.map (·.2)).Nodup) {t : Int} {k : ByteArray} (h : (t, k) ∈ S) : getD k S = t := by
  unfold getD
  cases e : S.find? fun d => decide (d.2 = k) with
  | none =>
    have := List.find?_eq_none.1 e _ h
    simp at this
  | some x =>
    have h1 := List.find?_some e
    simp only [decide_eq_true_eq] at h1
    have h2 := List.mem_of_find?_eq_some e
    obtain ⟨i, hi, e1⟩ := List.mem_iff_getElem.1 h2
    obtain ⟨j, hj, e2⟩ := List.mem_iff_getElem.1 h
    have h3 : i = j := (List.getElem_inj (h₀ := by rw [List.length_map]; exact hi) (h₁ := by rw [List.length_map]; exact hj) hS (i := i) (j := j)).1 (by simp [e1, e2, h1])
    subst h3
    rw [← e1, e2]; rfl
theorem getD_none {S : List Du} {k : ByteArray} (h : inD k S = false) : getD k S = 0 := by
  unfold getD
  rw [List.find?_eq_none.2 fun x hx => by
    intro hk
    have : inD k S = true := List.any_eq_true.2 ⟨x, hx, hk⟩
    rw [h] at this; cases this]
  rfl
theorem erase_keys (h : (l.map (·.k)).Nodup) {j : Nat} (hj : j < l.length) : ∀ r ∈ (l.eraseIdx j).map En.d, r.2 ≠ l[j].k := fun r hr e => by
  obtain ⟨x, hx, rfl⟩ := List.mem_map.1 hr
  have hp := erase_perm hj
  have h1 := nodup_perm h hp
  rw [List.map_cons] at h1
  exact (List.nodup_cons.1 h1).1 (by rw [← show x.k = l[j].k from e]; exact List.mem_map_of_mem hx)
theorem perm_put (h : (l.map (·.k)).Nodup) (hp : List.Perm (l.map En.d) S) {j : Nat} (hj : j < l.length) {t : Int} (hl : List.Perm l' (l.set j ⟨l[j].b, t, l[j].k⟩)) : List.Perm (l'.map En.d) (putD l[j].k t S) := by
  have h1 : List.Perm S (l[j].d :: (l.eraseIdx j).map En.d) := hp.symm.trans ((erase_perm hj).map En.d).symm
  have h2 := drop_perm h1 (k := l[j].k) rfl (erase_keys h hj)
  have h3 : List.Perm (l'.map En.d) ((t, l[j].k) :: (l.eraseIdx j).map En.d) := (hl.map En.d).trans ((set_perm hj _).map En.d)
  exact h3.trans ((h2.cons _).symm.trans insD_perm.symm)
theorem perm_new (hp : List.Perm (l.map En.d) S) {k : ByteArray} (hk : look l k = none) {b : Nat} {t : Int} (hl : List.Perm l' (l ++ [⟨b, t, k⟩])) : List.Perm (l'.map En.d) (putD k t S) := by
  have hn : ∀ d ∈ S, d.2 ≠ k := fun d hd => by
    obtain ⟨x, hx, rfl⟩ := List.mem_map.1 (hp.mem_iff.2 hd)
    exact look_none.1 hk x hx
  unfold putD
  rw [drop_none hn]
  have h1 : List.Perm (l'.map En.d) (l.map En.d ++ [(t, k)]) := by
    have := hl.map En.d
    rw [List.map_append] at this
    exact this
  exact h1.trans ((List.perm_append_comm (l₁ := l.map En.d) (l₂ := [(t, k)])).trans ((hp.cons _).trans insD_perm.symm))
theorem perm_drop (h : (l.map (·.k)).Nodup) (hp : List.Perm (l.map En.d) S) {e : En} (hl : List.Perm (l' ++ [e]) l) : List.Perm (l'.map En.d) (dropD e.k S) := by
  have h1 : List.Perm (l.map En.d) (e.d :: l'.map En.d) := by
    have := (hl.map En.d).symm
    rw [List.map_append] at this
    exact this.trans List.perm_append_comm
  have h2 := nodup_perm h hl
  rw [List.map_append] at h2
  refine (drop_perm (hp.symm.trans h1) rfl fun r hr e2 => ?_).symm
  obtain ⟨x, hx, rfl⟩ := List.mem_map.1 hr
  exact (List.nodup_append.1 h2).2.2 _ (List.mem_map_of_mem hx) e.k (by simp) e2
theorem head_of (hH : Hp (leB ltN) l l.length) (hS : UpD S) (hp : List.Perm (l.map En.d) S) (hl : 0 < l.length) : ∃ R, S = l[0].d :: R := by
  cases S with
  | nil =>
    have := hp.length_eq
    rw [List.length_map] at this
    simp at this
    subst this
    simp at hl
  | cons d R =>
    refine ⟨R, ?_⟩
    have hd : d ∈ l.map En.d := hp.mem_iff.2 (List.mem_cons_self ..)
    obtain ⟨e, he, rfl⟩ := List.mem_map.1 hd
    obtain ⟨i, hi, rfl⟩ := List.mem_iff_getElem.1 he
    have h0 : l[0].d ∈ l[i].d :: R := hp.mem_iff.1 (List.mem_map_of_mem (List.getElem_mem hl))
    have hmin : ltE l[i].d l[0].d = false := hH.first ordN (Nat.le_refl _) i hi _ _ (List.getElem?_eq_getElem hl) (List.getElem?_eq_getElem hi)
    rcases List.mem_cons.1 h0 with e | e
    · rw [e]
    · have := (List.pairwise_cons.1 hS).1 _ e
      rw [hmin] at this; cases this
end
def badT (t : Int) : Bool := decide (t < 0) || decide (4611686018427387904 < t)
theorem badT_iff {t : Int} : badT t = true ↔ t < 0 ∨ 4611686018427387904 < t := by simp [badT]
def putT (k : ByteArray) (t : Int) (S : List Du) : List Du := if badT t = true then S else putD k t S
def errT (t : Int) : Int := if badT t = true then 111 else 0
theorem RowD.at_ge {wb w : World} {a : Option Addr} {n c : Nat} {l : List Du} (h : RowD wb w (.slice a n c) l) (_hl : 0 < l.length) {g i : Nat} (e : a = some ⟨g, i, none⟩) : wb.heap.size ≤ g := (h.row.lt g (by rw [e]; rfl)).1
/-- At T the object with the dues S, all of it new since o; at a the dues G, in none of its blocks; nor are those that Z names. -/
def EC (o : World) (T : Nat) (w : World) (S : List Du) (a : Option Addr) (G : List Du) (Z : Nat → Prop) : Prop :=
  ∃ M v l D, XA w T M v l D ∧ List.Perm (l.map En.d) S ∧ UpD S ∧ (∀ d ∈ S, d.1 ≤ 4611686018427387904) ∧ (∀ x, own T M v l x → o.heap.size ≤ x) ∧ Below o.heap.size o w ∧ InD w a G ∧ (∀ g i, 0 < G.length → a = some ⟨g, i, none⟩ → ¬ own T M v l g) ∧ ∀ x, Z x → x < w.heap.size ∧ ¬ own T M v l x
/-- What Z names stands. -/
def Keeps (Z : Nat → Prop) (w w' : World) : Prop := ∀ x, Z x → w'.heap[x]? = w.heap[x]?
theorem Keeps.cell {Z : Nat → Prop} {w w' : World} (h : Keeps Z w w') {x i : Nat} {v : Value} (hx : Z x) (hb : w.cell? ⟨x, i, none⟩ = some v) : w'.cell? ⟨x, i, none⟩ = some v := by
  have := h x hx
  simp only [World.cell?, this] at hb ⊢
  exact hb
section
variable {o w w' : World} {T : Nat} {S : List Du} {a : Option Addr} {G : List Du} {Z : Nat → Prop}
theorem EC.bel (h : EC o T w S a G Z) (hb : Below w.heap.size w w') : EC o T w' S a G Z := by
  obtain ⟨M, v, l, D, h1, h2, h3, h4, h5, h6, h7, h8, h9⟩ := h
  exact ⟨M, v, l, D, h1.below hb, h2, h3, h4, h5, bstep h6 (hb.mono (Nat.le_refl _)), h7.below (Nat.le_refl _) hb, h8, fun x hx => ⟨Nat.lt_of_lt_of_le (h9 x hx).1 hb.size, (h9 x hx).2⟩⟩
theorem EC.below (h : EC o T w S a G Z) : Below o.heap.size o w := by
  obtain ⟨M, v, l, D, -, -, -, -, -, h6, -⟩ := h
  exact h6
theorem EC.list (h : EC o T w S a G Z) : InD w a G := by
  obtain ⟨M, v, l, D, -, -, -, -, -, -, h7, -⟩ := h
  exact h7
theorem EC.up (h : EC o T w S a G Z) : UpD S := by
  obtain ⟨M, v, l, D, -, -, h3, -⟩ := h
  exact h3
/-- Another list, a new one. -/
theorem EC.swap (h : EC o T w S a G Z) {a' : Option Addr} {G' : List Du} (hb : Below w.heap.size w w') (hI : InD w' a' G') (hO : ∀ g i, 0 < G'.length → a' = some ⟨g, i, none⟩ → w.heap.size ≤ g) : EC o T w' S a' G' Z := by
  obtain ⟨M, v, l, D, h1, h2, h3, h4, h5, h6, -, -, h9⟩ := h
  refine ⟨M, v, l, D, h1.below hb, h2, h3, h4, h5, bstep h6 hb, hI, fun g i hg e ho => ?_, fun x hx => ⟨Nat.lt_of_lt_of_le (h9 x hx).1 hb.size, (h9 x hx).2⟩⟩
  have := hO g i hg e
  have := h1.lt ho
  omega
theorem EC.nolist (h : EC o T w S a G Z) : EC o T w S none [] Z := by
  obtain ⟨M, v, l, D, h1, h2, h3, h4, h5, h6, -, -, h9⟩ := h
  exact ⟨M, v, l, D, h1, h2, h3, h4, h5, h6, fun hp => absurd hp (by simp), fun g i hg => absurd hg (by simp), h9⟩
/-- One block more, a new one. -/
theorem EC.guard (h : EC o T w S a G Z) (hb : Below w.heap.size w w') {x : Nat} (hx : w.heap.size ≤ x) (hx' : x < w'.heap.size) : EC o T w' S a G (fun y => Z y ∨ y = x) := by
  obtain ⟨M, v, l, D, h1, h2, h3, h4, h5, h6, h7, h8, h9⟩ := h
  refine ⟨M, v, l, D, h1.below hb, h2, h3, h4, h5, bstep h6 hb, h7.below (Nat.le_refl _) hb, h8, fun y hy => ?_⟩
  rcases hy with hy | rfl
  · exact ⟨Nat.lt_of_lt_of_le (h9 y hy).1 hb.size, (h9 y hy).2⟩
  · exact ⟨hx', fun ho => by have := h1.lt ho; omega⟩
theorem EC.less (h : EC o T w S a G Z) {Z' : Nat → Prop} (hz : ∀ x, Z' x → Z x) : EC o T w S a G Z' := by
  obtain ⟨M, v, l, D, h1, h2, h3, h4, h5, h6, h7, h8, h9⟩ := h
  exact ⟨M, v, l, D, h1, h2, h3, h4, h5, h6, h7, h8, fun y hy => h9 y (hz y hy)⟩
theorem EC.moved {M : Nat} {v : Value} {l : List En} {D : DataW Unit} {M' : Nat} {v' : Value} {l' : List En} {D' : DataW Unit} {S' : List Du} (_h1 : XA w T M v l D) (h5 : ∀ x, own T M v l x → o.heap.size ≤ x) (h6 : Below o.heap.size o w) (h7 : InD w a G) (h8 : ∀ g i, 0 < G.length → a = some ⟨g, i, none⟩ → ¬ own T M v l g) (h9 : ∀ x, Z x → x < w.heap.size ∧ ¬ own T M v l x)
    (hm : Mv T M v l w M' v' l' D' w') (hp : List.Perm (l'.map En.d) S') (hu : UpD S') (ht : ∀ d ∈ S', d.1 ≤ 4611686018427387904) : EC o T w' S' a G Z ∧ Keeps Z w w' := by
  refine ⟨⟨M', v', l', D', hm.at_, hp, hu, ht, fun x hx => ?_, ?_, fun hg => ?_, fun g i hg e ho => ?_, fun x hx => ⟨Nat.lt_of_lt_of_le (h9 x hx).1 hm.fr.size, fun ho => ?_⟩⟩, fun x hx => hm.fr.block x (h9 x hx).1 (h9 x hx).2⟩
  · rcases hm.own x hx with h | h
    · exact h5 x h
    · have := h6.size; omega
  · exact h6.trans (hm.fr.below h6.size (fun i hi ho => by have := h5 i ho; omega))
  · obtain ⟨b, i, e, hlt, hc⟩ := h7 hg
    have hn := h8 b i hg e
    have hbl := hm.fr.block b hlt hn
    refine ⟨b, i, e, Nat.lt_of_lt_of_le hlt hm.fr.size, fun j hj => ?_⟩
    obtain ⟨c0, c1⟩ := hc j hj
    exact ⟨(World.cell?_of_block (a := ⟨b, i + j * 2, none⟩) hbl).trans c0, (World.cell?_of_block (a := ⟨b, i + j * 2 + 1, none⟩) hbl).trans c1⟩
  · rcases hm.own g ho with h | h
    · exact h8 g i hg e h
    · obtain ⟨b, i', e', hlt, -⟩ := h7 hg
      rw [e] at e'
      cases e'
      omega
  · rcases hm.own x ho with h | h
    · exact (h9 x hx).2 h
    · have := (h9 x hx).1; omega
theorem EC.put (h : EC o T w S a G Z) (k : ByteArray) (hk : k.size ≤ maxLen) (t : Int) (hl : S.length ≤ 100000) :
    Calls Try.prog 10 #[.pointer (some ⟨T, 0, none⟩), .string k, .int .i64 t] w fun e w' => e = .returned (.int .i64 (errT t)) ∧ EC o T w' (putT k t S) a G Z ∧ Keeps Z w w' := by
  obtain ⟨M, v, l, D, h1, h2, h3, h4, h5, h6, h7, h8, h9⟩ := h
  have hll : l.length ≤ 1000000 := by have := h2.length_eq; rw [List.length_map] at this; omega
  cases hb : badT t with
  | true =>
    refine (put_bad T k t (badT_iff.1 hb)).mono ?_
    rintro e w' ⟨rfl, rfl⟩
    refine ⟨by unfold errT; rw [if_pos hb], ?_⟩
    unfold putT
    rw [if_pos hb]
    exact EC.moved h1 h5 h6 h7 h8 h9 (Mv.refl h1) h2 h3 h4
  | false =>
    have hnb : ¬ (t < 0 ∨ 4611686018427387904 < t) := fun hh => by rw [badT_iff.2 hh] at hb; cases hb
    rw [not_or] at hnb
    have hb' : ¬ badT t = true := by rw [hb]; decide
    have hmax : ∀ d ∈ putD k t S, d.1 ≤ 4611686018427387904 := fun d hd => by
      rcases mem_insD.1 hd with e | e
      · rw [e]; show t ≤ _; omega
      · exact h4 d (mem_dropD.1 e).1
    cases hlk : look l k with
    | some b =>
      obtain ⟨j, hj, -, e2⟩ := look_idx hlk
      subst e2
      refine (put_some h1 j hj hk hll t hnb.1 hnb.2).mono ?_
      rintro e w' ⟨rfl, v', l', hm, hp⟩
      refine ⟨by unfold errT; rw [if_neg hb'], ?_⟩
      unfold putT
      rw [if_neg hb']
      exact EC.moved h1 h5 h6 h7 h8 h9 hm (perm_put h1.kn h2 hj hp) h3.put hmax
    | none =>
      refine (put_none h1 k hk hll hlk t hnb.1 hnb.2).mono ?_
      rintro e w' ⟨rfl, v', l', D', hm, hp⟩
      refine ⟨by unfold errT; rw [if_neg hb'], ?_⟩
      unfold putT
      rw [if_neg hb']
      exact EC.moved h1 h5 h6 h7 h8 h9 hm (perm_new h2 hlk hp) h3.put hmax
theorem EC.drop (h : EC o T w S a G Z) (k : ByteArray) (hk : k.size ≤ maxLen) (hl : S.length ≤ 100000) :
    Calls Try.prog 14 #[.pointer (some ⟨T, 0, none⟩), .string k] w fun e w' => e = .returned (.bool (inD k S)) ∧ EC o T w' (dropD k S) a G Z ∧ Keeps Z w w' := by
  obtain ⟨M, v, l, D, h1, h2, h3, h4, h5, h6, h7, h8, h9⟩ := h
  have hll : l.length ≤ 1000000 := by have := h2.length_eq; rw [List.length_map] at this; omega
  rw [inD_look h1.kn h2]
  cases hlk : look l k with
  | some b =>
    obtain ⟨j, hj, -, e2⟩ := look_idx hlk
    subst e2
    refine (xdrop_some h1 j hj hk hll).mono ?_
    rintro e w' ⟨rfl, v', l', D', hm, hp⟩
    exact ⟨rfl, EC.moved h1 h5 h6 h7 h8 h9 hm (perm_drop h1.kn h2 hp) h3.drop fun d hd => h4 d (mem_dropD.1 hd).1⟩
  | none =>
    refine (xdrop_none h1 k hk hlk).mono ?_
    rintro e w' ⟨rfl, rfl⟩
    have hn : ∀ d ∈ S, d.2 ≠ k := fun d hd => by
      obtain ⟨x, hx, rfl⟩ := List.mem_map.1 (h2.mem_iff.2 hd)
      exact look_none.1 hlk x hx
    rw [drop_none hn]
    exact ⟨rfl, EC.moved h1 h5 h6 h7 h8 h9 (Mv.refl h1) h2 h3 h4⟩
theorem EC.clear (h : EC o T w S a G Z) :
    Calls Try.prog 12 #[.pointer (some ⟨T, 0, none⟩)] w fun e w' => e = .returned (.tuple #[]) ∧ EC o T w' [] a G Z ∧ Keeps Z w w' := by
  obtain ⟨M, v, l, D, h1, h2, h3, h4, h5, h6, h7, h8, h9⟩ := h
  refine (clear_calls h1).mono ?_
  rintro e w' ⟨rfl, M', hm⟩
  exact ⟨rfl, EC.moved h1 h5 h6 h7 h8 h9 hm (List.Perm.refl _) List.Pairwise.nil fun d hd => by cases hd⟩
theorem EC.len (h : EC o T w S a G Z) :
    Calls Try.prog 17 #[.pointer (some ⟨T, 0, none⟩)] w fun e w' => e = .returned (.int .i64 S.length) ∧ w = w' := by
  obtain ⟨M, v, l, D, h1, h2, -⟩ := h
  have := h2.length_eq
  rw [List.length_map] at this
  rw [← this]
  exact xlen_calls h1
theorem EC.get (h : EC o T w S a G Z) (k : ByteArray) (hk : k.size ≤ maxLen) :
    Calls Try.prog 15 #[.pointer (some ⟨T, 0, none⟩), .string k] w fun e w' => e = .returned (.tuple #[.int .i64 (getD k S), .bool (inD k S)]) ∧ w = w' := by
  obtain ⟨M, v, l, D, h1, h2, -⟩ := h
  have hi := inD_look h1.kn h2 k
  cases hlk : look l k with
  | some b =>
    obtain ⟨j, hj, -, e2⟩ := look_idx hlk
    subst e2
    rw [hi, hlk, getD_one (keysS h1.kn h2) (t := l[j].t) (h2.mem_iff.1 (List.mem_map_of_mem (f := En.d) (List.getElem_mem hj)))]
    exact xget_some h1 j hj hk
  | none =>
    rw [hlk] at hi
    rw [getD_none hi, hi]
    exact xget_none h1 k hk hlk
theorem EC.next (h : EC o T w S a G Z) :
    Calls Try.prog 9 #[.pointer (some ⟨T, 0, none⟩)] w fun e w' => e = .returned (.tuple #[.agg #[.int .i64 (S.headD (0, ⟨#[]⟩)).1, .string (S.headD (0, ⟨#[]⟩)).2], .bool (decide (0 < S.length))]) ∧ Below w.heap.size w w' := by
  obtain ⟨M, v, l, D, h1, h2, h3, -⟩ := h
  by_cases hl : 0 < l.length
  · obtain ⟨R, e⟩ := head_of h1.hp h3 h2 hl
    rw [e]
    exact next_some h1 hl
  · have : l = [] := List.eq_nil_of_length_eq_zero (by omega)
    subst this
    have : S = [] := h2.nil_eq.symm
    subst this
    exact next_none h1
theorem EC.due (h : EC o T w S a G Z) (hl : S.length ≤ 100000) (now most : Int) (hm1 : -9223372036854775808 ≤ most) (hm2 : most ≤ 9223372036854775807) :
    Calls Try.prog 19 #[.pointer (some ⟨T, 0, none⟩), .int .i64 now, .int .i64 most] w fun e w' => ∃ v, e = .returned v ∧ RowT w w' v ((dueD now most.toNat S).map (·.2)) := by
  obtain ⟨M, v, l, D, h1, h2, h3, -⟩ := h
  have hll : l.length ≤ 1000000 := by have := h2.length_eq; rw [List.length_map] at this; omega
  exact xdue_calls h1 hll h3 h2 now most hm1 hm2
theorem EC.all (h : EC o T w S a G Z) (hl : S.length ≤ 100000) :
    Calls Try.prog 22 #[.pointer (some ⟨T, 0, none⟩)] w fun e w' => ∃ v, e = .returned v ∧ RowD w w' v S := by
  obtain ⟨M, v, l, D, h1, h2, h3, h4, -⟩ := h
  have hll : l.length ≤ 1000000 := by have := h2.length_eq; rw [List.length_map] at this; omega
  exact xall_calls h1 hll h3 h2 h4
end
/-- What the checking package's Put and Drop leave. -/
theorem EC.refPut {o w : World} {T : Nat} {S : List Du} {a : Option Addr} {Z : Nat → Prop} (h : EC o T w S a S Z) (c : Nat) (k : ByteArray) (t : Int) (hl : S.length ≤ 100000) :
    Calls Try.prog 11 #[.slice a S.length c, .string k, .int .i64 t] w fun e w' => ∃ a' c', e = .returned (.tuple #[.slice a' (putT k t S).length c', .int .i64 (errT t)]) ∧ EC o T w' S a' (putT k t S) Z ∧ Below w.heap.size w w' := by
  cases hb : badT t with
  | true =>
    refine (refPut_bad w a c S k t (badT_iff.1 hb)).mono ?_
    rintro e w' ⟨rfl, rfl⟩
    unfold errT putT
    rw [if_pos hb, if_pos hb]
    exact ⟨a, c, rfl, h, Below.refl _ _⟩
  | false =>
    have hnb : ¬ (t < 0 ∨ 4611686018427387904 < t) := fun hh => by rw [badT_iff.2 hh] at hb; cases hb
    rw [not_or] at hnb
    have hb' : ¬ badT t = true := by rw [hb]; decide
    refine (refPut_calls w a c S hl h.list k t hnb.1 hnb.2).mono ?_
    rintro e w' ⟨v, rfl, hR⟩
    unfold errT putT
    rw [if_neg hb', if_neg hb']
    obtain ⟨a', c', rfl, -, -, hI⟩ := hR.slice
    exact ⟨a', c', rfl, h.swap hR.bel hI fun g i hg e => hR.at_ge hg e, hR.bel⟩
theorem EC.refDrop {o w : World} {T : Nat} {S : List Du} {a : Option Addr} {Z : Nat → Prop} (h : EC o T w S a S Z) (c : Nat) (k : ByteArray) (hl : S.length ≤ 100000) :
    Calls Try.prog 13 #[.slice a S.length c, .string k] w fun e w' => ∃ a' c', e = .returned (.tuple #[.slice a' (dropD k S).length c', .bool (inD k S)]) ∧ EC o T w' S a' (dropD k S) Z ∧ Below w.heap.size w w' := by
  refine (refDrop_calls w a c S (by omega) h.list k).mono ?_
  rintro e w' ⟨v, rfl, hR⟩
  obtain ⟨a', c', rfl, -, -, hI⟩ := hR.slice
  exact ⟨a', c', rfl, h.swap hR.bel hI fun g i hg e => hR.at_ge hg e, hR.bel⟩
theorem putT_le (k : ByteArray) (t : Int) (S : List Du) : (putT k t S).length ≤ S.length + 1 := by
  unfold putT
  split
  · omega
  · exact putD_le k t S
theorem ec_new (o w : World) (ho : Below o.heap.size o w) :
    Calls Try.prog 8 #[] w fun e w' => ∃ T, e = .returned (.pointer (some ⟨T, 0, none⟩)) ∧ EC o T w' [] none [] (fun _ => False) := by
  refine (new_calls w).mono ?_
  rintro e w' ⟨T, M, rfl, h1, h2, h3, h4⟩
  refine ⟨T, rfl, M, _, [], _, h1, List.Perm.refl _, List.Pairwise.nil, (fun d hd => by cases hd), fun x hx => ?_, ho.trans (h2.mono ho.size), fun hp => absurd hp (by simp), fun g i hg => absurd hg (by simp), fun x hx => hx.elim⟩
  have hs := ho.size
  rcases hx with rfl | rfl | hx | ⟨y, hy, -⟩
  · omega
  · omega
  · cases hx
  · cases hy
set_option maxHeartbeats 4000000 in
set_option maxRecDepth 100000 in
theorem expiryAlive (w : World) : Calls Try.prog 7 #[] w fun e w' => e = .returned (.bool true) ∧ Below w.heap.size w w' := by
  have H0 := Lib.hid (ec_new w w (Below.refl _ _))
  have HM : Hid (∀ n, n ≤ 1000 → n ≤ maxLen) := Lib.hid fun n hn => by unfold maxLen; omega
  go_enter Try.func7, Try.ntmps7
  go_wp2_with fail
  refine H0.out.mono ?_; rintro en w1 ⟨T, rfl, h1⟩
  have H1 := Lib.hid (h1.put ⟨#[97]⟩ (HM.out _ (by decide)) 5 (by decide))
  clear h1 H0
  rw [show errT 5 = 0 by decide] at H1
  go_wp2_with fail
  refine H1.out.mono ?_; rintro en w2 ⟨rfl, h2, -⟩
  have H2 := Lib.hid (h2.put ⟨#[98]⟩ (HM.out _ (by decide)) 3 (by decide))
  clear h2 H1
  rw [show errT 3 = 0 by decide] at H2
  go_wp2_with fail
  refine H2.out.mono ?_; rintro en w3 ⟨rfl, h3, -⟩
  have e3 : putT ⟨#[98]⟩ 3 (putT ⟨#[97]⟩ 5 []) = [(3, ⟨#[98]⟩), (5, ⟨#[97]⟩)] := by decide
  rw [e3] at h3
  have HD := Lib.hid (h3.due (by decide) 4 9 (by decide) (by decide))
  rw [show (dueD 4 (9 : Int).toNat [(3, ⟨#[98]⟩), (5, ⟨#[97]⟩)]).map (·.2) = [⟨#[98]⟩] by decide] at HD
  have H3 := Lib.hid h3
  clear h3 H2 e3
  go_wp2_with fail
  refine HD.out.mono ?_; rintro en w4 ⟨v4, rfl, hR⟩
  have h4 := H3.out.bel hR.bel
  have HLn := Lib.hid h4.len
  rw [show ([(3, ⟨#[98]⟩), (5, ⟨#[97]⟩)] : List Du).length = 2 from rfl] at HLn
  have HB := Lib.hid h4.below
  obtain ⟨a4, c4, rfl, -, -, hI, -⟩ := hR.slice
  obtain ⟨g, rfl, k0⟩ := hI 0 (by decide)
  rw [show ([⟨#[98]⟩] : List ByteArray)[0]'(by decide) = ⟨#[98]⟩ from rfl] at k0
  rw [show ([⟨#[98]⟩] : List ByteArray).length = 1 from rfl]
  clear h4 hR hI HD H3
  go_wp2_with fail
  refine HLn.out.mono ?_; rintro en w5 ⟨rfl, rfl⟩
  go_wp2_with fail
  go_ret
  exact ⟨rfl, HB.out⟩
end Go.Proofs.Ytabhnnffohnecaa.Ea
