/- ExpiryOrders: two objects side by side; what is plain of it. No condition. -/
import Derived.Test.YtabhnnffohnecaaEz4
namespace Go.Proofs.Ytabhnnffohnecaa.Ea
open Go.ChangeShapes Go.WideShapes Go.ChangeAt Go.RowKit Go.Maps Go.WideMaps
theorem putT_up {k : ByteArray} {t : Int} {S : List Du} (h : UpD S) : UpD (putT k t S) := by
  unfold putT
  split
  · exact h
  · exact h.put
theorem putAll_snoc (l : List Du) (d : Du) : putAll (l ++ [d]) = putT d.2 d.1 (putAll l) := by
  unfold putAll
  rw [List.foldl_append]; rfl
theorem putAll_up (l : List Du) : UpD (putAll l) := by
  have : ∀ (l S : List Du), UpD S → UpD (l.foldl (fun S d => putT d.2 d.1 S) S) := by
    intro l
    induction l with
    | nil => intro S h; exact h
    | cons x r ih => intro S h; exact ih _ (putT_up h)
  exact this l [] List.Pairwise.nil
theorem mem_putAll : ∀ (n : Nat) (l : List Du), l.length = n → (l.map (·.2)).Nodup → ∀ x, x ∈ putAll l ↔ x ∈ l ∧ badT x.1 = false
  | 0, l, h, _, x => by
    obtain rfl := List.eq_nil_of_length_eq_zero h
    simp [putAll]
  | n + 1, l, h, hn, x => by
    have hne : l ≠ [] := fun e => by rw [e] at h; simp at h
    have e := List.dropLast_concat_getLast hne
    generalize l.getLast hne = d at e
    have hl : l.dropLast.length = n := by rw [List.length_dropLast]; omega
    generalize l.dropLast = r at e hl
    subst e
    rw [List.map_append] at hn
    obtain ⟨h1, -, h3⟩ := List.nodup_append.1 hn
    have ih := mem_putAll n r hl h1 x
    have hd : x ∈ r → x.2 ≠ d.2 := fun hx => h3 _ (List.mem_map_of_mem (f := fun y : Du => y.2) hx) _ (by simp)
    rw [putAll_snoc, List.mem_append, List.mem_singleton]
    unfold putT
    cases hb : badT d.1 with
    | true =>
      rw [if_pos rfl, ih]
      constructor
      · rintro ⟨a, b⟩; exact ⟨.inl a, b⟩
      · rintro ⟨a | a, b⟩
        · exact ⟨a, b⟩
        · rw [a, hb] at b; cases b
    | false =>
      rw [if_neg (by decide), mem_putD, ih]
      constructor
      · rintro (a | ⟨⟨a, b⟩, -⟩)
        · have : x = d := a
          rw [this]; exact ⟨.inr rfl, hb⟩
        · exact ⟨.inl a, b⟩
      · rintro ⟨a | a, b⟩
        · exact .inr ⟨⟨a, b⟩, hd a⟩
        · exact .inl a
theorem putAll_rev {l : List Du} (h : (l.map (·.2)).Nodup) : putAll l.reverse = putAll l := by
  have h2 : (l.reverse.map (·.2)).Nodup := by rw [List.map_reverse]; exact (List.reverse_perm _).nodup_iff.2 h
  refine up_eq (putAll_up _) (putAll_up _) fun x => ?_
  rw [mem_putAll _ _ rfl h2, mem_putAll _ _ rfl h, List.mem_reverse]
theorem keys_nodup {l : List Du} (h : ∀ i j (hi : i < l.length) (_hj : j < i), l[j].2 ≠ l[i].2) : (l.map (·.2)).Nodup := by
  refine List.pairwise_iff_getElem.2 fun i j hi hj hij => ?_
  rw [List.length_map] at hi hj
  simpa using h j i hj hij
/-- What has ended at a time has ended at each later one. -/
theorem due_pre {S : List Du} (hS : UpD S) {a b : Int} (h : a ≤ b) (m : Nat) : dueD a m S = (dueD b m S).take (dueD a m S).length := by
  have h1 : ∀ S : List Du, UpD S → ∃ R, (S.filter fun d => decide (d.1 ≤ b)) = (S.filter fun d => decide (d.1 ≤ a)) ++ R := by
    intro S
    induction S with
    | nil => intro _; exact ⟨[], rfl⟩
    | cons x r ih =>
      intro hu
      obtain ⟨u1, u2⟩ := List.pairwise_cons.1 hu
      by_cases hx : x.1 ≤ a
      · obtain ⟨R, e⟩ := ih u2
        refine ⟨R, ?_⟩
        rw [List.filter_cons_of_pos (by simpa using Int.le_trans hx h), List.filter_cons_of_pos (by simpa using hx), e]; rfl
      · have : (r.filter fun d => decide (d.1 ≤ a)) = [] := List.filter_eq_nil_iff.2 fun d hd hda => by
          have hda : d.1 ≤ a := by simpa using hda
          rcases ltE_iff.1 (u1 d hd) with h2 | h2 <;> omega
        exact ⟨(x :: r).filter fun d => decide (d.1 ≤ b), by rw [show ((x :: r).filter fun d => decide (d.1 ≤ a)) = [] from (List.filter_cons_of_neg (by simpa using hx)).trans this, List.nil_append]⟩
  obtain ⟨R, e⟩ := h1 S hS
  unfold dueD
  rw [e, List.take_append, List.take_append_of_le_length (by rw [List.length_take]; exact Nat.le_refl _)]
  rw [List.take_of_length_le (Nat.le_refl _)]
theorem due_le {S : List Du} (hS : UpD S) {a b : Int} (h : a ≤ b) (m : Nat) : (dueD a m S).length ≤ (dueD b m S).length := by
  have e := congrArg List.length (due_pre hS h m)
  rw [List.length_take] at e
  omega
/-- Two objects, in blocks of their own. -/
def E2 (o : World) (T U : Nat) (w : World) (S R : List Du) : Prop :=
  ∃ M v l D M' v' l' D', XA w T M v l D ∧ XA w U M' v' l' D' ∧ (List.Perm (l.map En.d) S ∧ UpD S ∧ (∀ d ∈ S, d.1 ≤ 4611686018427387904) ∧ ∀ x, own T M v l x → o.heap.size ≤ x) ∧ (List.Perm (l'.map En.d) R ∧ UpD R ∧ (∀ d ∈ R, d.1 ≤ 4611686018427387904) ∧ ∀ x, own U M' v' l' x → o.heap.size ≤ x) ∧ Below o.heap.size o w ∧ ∀ x, own T M v l x → ¬ own U M' v' l' x
section
variable {o w w' : World} {T U : Nat} {S R : List Du}
theorem E2.symm (h : E2 o T U w S R) : E2 o U T w R S := by
  obtain ⟨M, v, l, D, M', v', l', D', h1, h2, h3, h4, h5, h6⟩ := h
  exact ⟨M', v', l', D', M, v, l, D, h2, h1, h4, h3, h5, fun x hx hy => h6 x hy hx⟩
theorem E2.bel (h : E2 o T U w S R) (hb : Below w.heap.size w w') : E2 o T U w' S R := by
  obtain ⟨M, v, l, D, M', v', l', D', h1, h2, h3, h4, h5, h6⟩ := h
  exact ⟨M, v, l, D, M', v', l', D', h1.below hb, h2.below hb, h3, h4, bstep h5 (hb.mono (Nat.le_refl _)), h6⟩
theorem E2.left (h : E2 o T U w S R) : EC o T w S none [] (fun _ => False) := by
  obtain ⟨M, v, l, D, M', v', l', D', h1, h2, ⟨a1, a2, a3, a4⟩, h4, h5, h6⟩ := h
  exact ⟨M, v, l, D, h1, a1, a2, a3, a4, h5, fun hp => absurd hp (by simp), fun g i hg => absurd hg (by simp), fun x hx => hx.elim⟩
theorem E2.below (h : E2 o T U w S R) : Below o.heap.size o w := h.left.below
/-- An object beside one whose blocks are named. -/
theorem E2.of {M : Nat} {v : Value} {l : List En} {D : DataW Unit} (h1 : XA w U M v l D) (h2 : List.Perm (l.map En.d) R ∧ UpD R ∧ (∀ d ∈ R, d.1 ≤ 4611686018427387904) ∧ ∀ x, own U M v l x → o.heap.size ≤ x) (h3 : EC o T w S none [] (own U M v l)) : E2 o T U w S R := by
  obtain ⟨M', v', l', D', e1, e2, e3, e4, e5, e6, -, -, e9⟩ := h3
  exact ⟨M', v', l', D', M, v, l, D, e1, h1, ⟨e2, e3, e4, e5⟩, h2, e6, fun x hx hy => (e9 x hy).2 hx⟩
theorem E2.put (h : E2 o T U w S R) (k : ByteArray) (hk : k.size ≤ maxLen) (t : Int) (hl : S.length ≤ 100000) :
    Calls Try.prog 10 #[.pointer (some ⟨T, 0, none⟩), .string k, .int .i64 t] w fun e w' => e = .returned (.int .i64 (errT t)) ∧ E2 o T U w' (putT k t S) R := by
  obtain ⟨M, v, l, D, M', v', l', D', h1, h2, ⟨a1, a2, a3, a4⟩, h4, h5, h6⟩ := h
  have he : EC o T w S none [] (own U M' v' l') := ⟨M, v, l, D, h1, a1, a2, a3, a4, h5, fun hp => absurd hp (by simp), fun g i hg => absurd hg (by simp), fun x hx => ⟨h2.lt hx, fun hy => h6 x hy hx⟩⟩
  refine (he.put k hk t hl).mono ?_
  rintro e w' ⟨rfl, h7, h8⟩
  exact ⟨rfl, E2.of (h2.keep h8) h4 h7⟩
end
theorem e2_new {o w : World} {T : Nat} {S : List Du} (h : EC o T w S none [] (fun _ => False)) :
    Calls Try.prog 8 #[] w fun e w' => ∃ U, e = .returned (.pointer (some ⟨U, 0, none⟩)) ∧ E2 o T U w' S [] := by
  refine (new_calls w).mono ?_
  rintro e w' ⟨U, M, rfl, h1, h2, h3, h4⟩
  obtain ⟨M', v', l', D', e1, e2, e3, e4, e5, e6, -⟩ := h
  have hs := e6.size
  have hU : ∀ x, own U M (.slice none 0 0) [] x → w.heap.size ≤ x := fun x hx => by
    rcases hx with rfl | rfl | hx | ⟨y, hy, -⟩
    · exact h4
    · exact h3
    · cases hx
    · cases hy
  refine ⟨U, rfl, M', v', l', D', M, _, [], _, e1.below h2, h1, ⟨e2, e3, e4, e5⟩, ⟨List.Perm.refl _, List.Pairwise.nil, (fun d hd => by cases hd), fun x hx => Nat.le_trans hs (hU x hx)⟩, e6.trans (h2.mono hs), fun x hx hy => ?_⟩
  have := e1.lt hx
  have := hU x hy
  omega
end Go.Proofs.Ytabhnnffohnecaa.Ea
