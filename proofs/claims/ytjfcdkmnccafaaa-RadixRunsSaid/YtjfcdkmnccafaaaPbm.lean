/- What Walk wants: a stack's rows in a fence, the list that is left. No condition. -/
import Derived.Test.YtjfcdkmnccafaaaPbi
import Derived.Test.YtjfcdkmnccafaaaPbk
import Derived.Test.YtjfcdkmnccafaaaPbl
namespace Go.Proofs.Ytjfcdkmnccafaaa.Pb
open Go.RowKit Go.Shelf
theorem ownsRow_of_block {w w' : World} {base : Nat} {e : TypeId} {size n : Nat} {v : Value} {xs : List Value} (h : w.ownsRow base e size v n xs) (k : ∀ g, v.ownBlock = some g → w'.heap[g]? = w.heap[g]?) : w'.ownsRow base e size v n xs := by
  refine ⟨h.1, ?_⟩
  rcases h.2 with h' | ⟨g, cap, cur, rfl, hb, hg, hnc, hcm, hcs, ht⟩
  · exact .inl h'
  · exact .inr ⟨g, cap, cur, rfl, hb, (k g rfl).trans hg, hnc, hcm, hcs, ht⟩
/-- Behind a function's end: the records' blocks are no row's. -/
theorem ownsRow_recs {w w' : World} {base B : Nat} {e : TypeId} {size n : Nat} {v : Value} {xs : List Value} {ds : List Nat} (h : w.ownsRow base e size v n xs) (hr : Rec w B ds) (hf : Fr (fun y => y ∈ ds) w w') : w'.ownsRow base e size v n xs := by
  rcases h.2 with h' | ⟨g, cap, cur, hv, hb, hg, hnc, hcm, hcs, ht⟩
  · exact ⟨h.1, .inl h'⟩
  · refine ownsRow_of_block h fun g' hg' => ?_
    rw [hv] at hg'
    have e1 : g = g' := by
      have h1 : some g = some g' := hg'
      injection h1
    subst e1
    refine hf.block g (Array.getElem?_eq_some_iff.1 hg).1 (fun hm => ?_)
    have := (hr.at_ g hm).2
    rw [hg] at this
    cases this
theorem ownsRow_ks {w : World} {base : Nat} {v : Value} {l : List Nat} (h : w.ownsRow base 46 1 v l.length (l.map ptr)) : KsAt w v l := by
  refine ⟨h.1, ?_⟩
  rcases h.2 with h' | ⟨g, cap, cur, hv, hb, hg, r⟩
  · exact .inl h'
  · exact .inr ⟨g, cap, cur, hv, Nat.zero_le _, hg, r⟩
theorem mark_pushI {F : Fence} {n : Nat} {w : World} {base : Nat} {v : Value} {l : List Pa.Mk} {ops : Array Oper} {rest : List Oper} {o : Oper} {a : Act} {Q : Exit → Act → World → Prop} (hO : w.ownsRow base 45 2 v l.length (Pa.cellsM l)) (hb : base ≤ w.heap.size) (hgd : o.guard = none) (s x : Operand)
    (ho : o.op = .call { callee := .builtin .append, args := #[s, x], argTypes := #[27, 27] }) (hs : a.eval s = v) (m : Pa.Mk) (Te : TypeId) (hx : a.eval x = .slice (some ⟨w.heap.size, 0, none⟩) 1 1) (hl : l.length ≤ 1000000000)
    (h : ∀ v' w', w'.ownsRow base 45 2 v' (l.length + 1) (Pa.cellsM (l ++ [m])) → (w.alloc (.cells #[.string m.1, .int .i64 m.2] Te)).grownBy w' v.ownBlock → wpListIn F n Try.prog ops Q rest (a.put o.dst v') w') : wpListIn F n Try.prog ops Q (o :: rest) a (w.alloc (.cells #[.string m.1, .int .i64 m.2] Te)) := by
  obtain ⟨i0, hi, hz0, hz1, hz2⟩ := info_parts Pa.iMk
  have hO2 := hO.kept (World.grownBy_alloc w (.cells #[.string m.1, .int .i64 m.2] Te) none) (by cases v.ownBlock <;> simp)
  refine wpListIn_append_own _ hgd s x 27 ho base 45 i0 (.agg #[.string ⟨#[]⟩, .int .i64 0]) 2 24 Try.underlying27 hi hz0 hz1 hz2 rfl (by decide) v l.length (Pa.cellsM l) hs hO2 ⟨w.heap.size, 0, none⟩ 1 1 [.string m.1, .int .i64 m.2] hx rfl
    (fun j u hj => by rw [Addr.add_lit, Nat.zero_add, World.cell?_alloc_new]; simpa using hj)
    (fun u hu => by
      simp only [List.mem_cons, List.not_mem_nil, or_false] at hu
      rcases hu with rfl | rfl <;> rfl) (by unfold maxLen; omega) (by omega) (by simp; omega) ?_
  intro v' w' r1 r2 _
  exact h v' w' (by rw [Pa.cellsM_app]; exact r1) r2
theorem iPtr : (Try.prog.info? 46).map (fun i => (i.zero, i.size, i.bytes)) = some (some (.pointer none), 1, 8) := by kernel_rfl
theorem ptr_pushI {F : Fence} {n : Nat} {w : World} {base : Nat} {v : Value} {l : List Nat} {ops : Array Oper} {rest : List Oper} {o : Oper} {a : Act} {Q : Exit → Act → World → Prop} (hO : w.ownsRow base 46 1 v l.length (l.map ptr)) (hb : base ≤ w.heap.size) (hgd : o.guard = none) (s x : Operand)
    (ho : o.op = .call { callee := .builtin .append, args := #[s, x], argTypes := #[47, 47] }) (hs : a.eval s = v) (c : Nat) (Te : TypeId) (hx : a.eval x = .slice (some ⟨w.heap.size, 0, none⟩) 1 1) (hl : l.length ≤ 1000000000)
    (h : ∀ v' w', w'.ownsRow base 46 1 v' (l.length + 1) ((l ++ [c]).map ptr) → (w.alloc (.cells #[.pointer (some ⟨c, 0, none⟩)] Te)).grownBy w' v.ownBlock → wpListIn F n Try.prog ops Q rest (a.put o.dst v') w') : wpListIn F n Try.prog ops Q (o :: rest) a (w.alloc (.cells #[.pointer (some ⟨c, 0, none⟩)] Te)) := by
  obtain ⟨i0, hi, hz0, hz1, hz2⟩ := info_parts iPtr
  have hO2 := hO.kept (World.grownBy_alloc w (.cells #[.pointer (some ⟨c, 0, none⟩)] Te) none) (by cases v.ownBlock <;> simp)
  refine wpListIn_append_own _ hgd s x 47 ho base 46 i0 (.pointer none) 1 8 Try.underlying47 hi hz0 hz1 hz2 rfl (by decide) v l.length (l.map ptr) hs hO2 ⟨w.heap.size, 0, none⟩ 1 1 [.pointer (some ⟨c, 0, none⟩)] hx rfl
    (fun j u hj => by rw [Addr.add_lit, Nat.zero_add, World.cell?_alloc_new]; simpa using hj)
    (fun u hu => by
      simp only [List.mem_cons, List.not_mem_nil, or_false] at hu
      subst hu; rfl) (by unfold maxLen; omega) (by omega) (by simp; omega) ?_
  intro v' w' r1 r2 _
  exact h v' w' (by rw [List.map_append]; exact r1) r2
/-- What is left of a walk: the stack's nodes with all below them, the last one first. -/
def left (t : Tr) (M : Nat) (st : List Nat) : List Nat := st.reverse.flatMap (sub t M)
theorem left_nil (t : Tr) (M : Nat) : left t M [] = [] := rfl
theorem left_pop {t : Tr} (ho : Ok t) {M : Nat} (hM : ∀ b ∈ t.B, (t.tx b).length ≤ M) (st : List Nat) {c : Nat} (hc : c ∈ t.B) : left t M (st ++ [c]) = c :: left t M (st ++ (t.ks c).reverse) := by
  unfold left
  rw [List.reverse_append, List.reverse_append, List.reverse_reverse, List.flatMap_append, List.flatMap_append, List.reverse_singleton, List.flatMap_cons, List.flatMap_nil, List.append_nil, sub_eq ho hM hc]
  rfl
theorem left_one (t : Tr) (M b : Nat) : left t M [b] = sub t M b := by simp [left]
def mkL (t : Tr) (l : List Nat) : List Pa.Mk := l.filterMap fun b => (t.nm b).map fun n => (bs (t.tx b), n)
theorem mkL_no {t : Tr} {b : Nat} (l : List Nat) (h : t.nm b = none) : mkL t (b :: l) = mkL t l := by simp [mkL, h]
theorem mkL_yes {t : Tr} {b : Nat} {n : Int} (l : List Nat) (h : t.nm b = some n) : mkL t (b :: l) = (bs (t.tx b), n) :: mkL t l := by simp [mkL, h]
theorem mkL_le (t : Tr) (l : List Nat) : (mkL t l).length ≤ l.length := List.length_filterMap_le _ _
theorem Lt.irr {p : T} (h : Lt p p) : False := by
  rcases h with ⟨-, h⟩ | ⟨r, x, y, h1, h2, h3⟩
  · exact h rfl
  · have := ext_one h1 h2
    subst this
    exact ulirr x h3
theorem sub_nd {t : Tr} (ho : Ok t) {M : Nat} (hM : ∀ b ∈ t.B, (t.tx b).length ≤ M) {b : Nat} (hb : b ∈ t.B) : (sub t M b).Nodup := (subF_lt ho hM _ b hb (Nat.le_refl _)).imp fun h e => by subst e; exact h.irr
theorem nd_le : ∀ {l r : List Nat}, l.Nodup → (∀ x ∈ l, x ∈ r) → l.length ≤ r.length
  | [], _, _, _ => Nat.zero_le _
  | x :: l, r, hn, hs => by
    obtain ⟨h1, h2⟩ := List.nodup_cons.1 hn
    have hx := hs x (List.mem_cons_self ..)
    have h3 := nd_le (r := r.erase x) h2 (fun y hy => (List.mem_erase_of_ne (fun (e : y = x) => h1 (by rw [← e]; exact hy))).2 (hs y (List.mem_cons_of_mem _ hy)))
    rw [List.length_erase_of_mem hx] at h3
    have := List.length_pos_of_mem hx
    rw [List.length_cons]
    omega
theorem sub_le {t : Tr} (ho : Ok t) {M : Nat} (hM : ∀ b ∈ t.B, (t.tx b).length ≤ M) {b : Nat} (hb : b ∈ t.B) : (sub t M b).length ≤ t.B.length := nd_le (sub_nd ho hM hb) fun x hx => ((mem_sub ho hM hb x).1 hx).1
theorem left_len {t : Tr} (ho : Ok t) {M : Nat} (hM : ∀ b ∈ t.B, (t.tx b).length ≤ M) {st : List Nat} (h : ∀ c ∈ st, c ∈ t.B) : st.length ≤ (left t M st).length := by
  have key : ∀ l : List Nat, (∀ c ∈ l, c ∈ t.B) → l.length ≤ (l.flatMap (sub t M)).length := by
    intro l
    induction l with
    | nil => intro _; exact Nat.zero_le _
    | cons c l ih =>
      intro hl
      have h1 := ih (fun d hd => hl d (List.mem_cons_of_mem _ hd))
      rw [List.flatMap_cons, List.length_append, sub_eq ho hM (hl c (List.mem_cons_self ..)), List.length_cons, List.length_cons]
      omega
  have := key st.reverse (fun c hc => h c (List.mem_reverse.1 hc))
  rw [List.length_reverse] at this
  exact this
theorem rec_own {β : Type} {B0 B : Nat} {ds : List Nat} (h : ∀ D ∈ ds, D < B) : OwnFrom B (fun (_ : β) W => Rec W B0 ds) := fun s W W' row hs hg hr => hs.keep fun D hD => hg.block D (hs.lt hD) (fun e => by
  have := (hr D e.symm).1
  have := h D hD
  omega)
end Go.Proofs.Ytjfcdkmnccafaaa.Pb
