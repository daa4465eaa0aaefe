/- The nodes whose texts begin with a node's text, in order. No condition. -/
import Derived.Test.YtnmncjeplfkdpaaPbA
import Derived.Test.YtnmncjeplfkdpaaPbE
import Derived.Sort.CutIn
namespace Go.Proofs.Ytnmncjeplfkdpaa.Pb
def subF (t : Tr) : Nat → Nat → List Nat
  | 0, _ => []
  | n + 1, b => b :: (t.ks b).flatMap (subF t n)
theorem flat_congr {l : List Nat} {f g : Nat → List Nat} (h : ∀ c ∈ l, f c = g c) : l.flatMap f = l.flatMap g := by
  induction l with
  | nil => rfl
  | cons c l ih => rw [List.flatMap_cons, List.flatMap_cons, h c (List.mem_cons_self ..), ih (fun d hd => h d (List.mem_cons_of_mem _ hd))]
theorem klt {t : Tr} (ho : Ok t) {b c : Nat} (hb : b ∈ t.B) (hc : c ∈ t.ks b) : (t.tx b).length < (t.tx c).length := by
  obtain ⟨x, hx⟩ := ho.kext hb hc
  have h1 := hx.length_le
  rw [List.length_append] at h1
  have h2 : [x].length = 1 := rfl
  omega
theorem subF_eq {t : Tr} (ho : Ok t) {M : Nat} (hM : ∀ b ∈ t.B, (t.tx b).length ≤ M) : ∀ (n m b : Nat), b ∈ t.B → M + 1 - (t.tx b).length ≤ n → M + 1 - (t.tx b).length ≤ m → subF t n b = subF t m b
  | 0, m, b, hb, hn, _ => by have := hM b hb; omega
  | n + 1, 0, b, hb, _, hm => by have := hM b hb; omega
  | n + 1, m + 1, b, hb, hn, hm => by
    show b :: _ = b :: _
    rw [flat_congr fun c hc => subF_eq ho hM n m c (ho.kin b hb c hc).1 (by have := klt ho hb hc; omega) (by have := klt ho hb hc; omega)]
/-- The nodes from b on, each ahead of those below it. -/
def sub (t : Tr) (M b : Nat) : List Nat := subF t (M + 1 - (t.tx b).length) b
theorem sub_eq {t : Tr} (ho : Ok t) {M : Nat} (hM : ∀ b ∈ t.B, (t.tx b).length ≤ M) {b : Nat} (hb : b ∈ t.B) : sub t M b = b :: (t.ks b).flatMap (sub t M) := by
  have h1 := hM b hb
  obtain ⟨n, hn⟩ : ∃ n, M + 1 - (t.tx b).length = n + 1 := ⟨M - (t.tx b).length, by omega⟩
  unfold sub
  rw [hn]
  show b :: _ = b :: _
  rw [flat_congr fun c hc => subF_eq ho hM n (M + 1 - (t.tx c).length) c (ho.kin b hb c hc).1 (by have := klt ho hb hc; omega) (Nat.le_refl _)]
theorem mem_subF {t : Tr} (ho : Ok t) {M : Nat} (hM : ∀ b ∈ t.B, (t.tx b).length ≤ M) : ∀ (n b : Nat), b ∈ t.B → M + 1 - (t.tx b).length ≤ n → ∀ d, d ∈ subF t n b ↔ d ∈ t.B ∧ t.tx b <+: t.tx d
  | 0, b, hb, hn, _ => by have := hM b hb; omega
  | n + 1, b, hb, hn, d => by
    have hk : ∀ c ∈ t.ks b, (d ∈ subF t n c ↔ d ∈ t.B ∧ t.tx c <+: t.tx d) := fun c hc => mem_subF ho hM n c (ho.kin b hb c hc).1 (by have := klt ho hb hc; omega) d
    show d ∈ b :: (t.ks b).flatMap (subF t n) ↔ _
    rw [List.mem_cons, List.mem_flatMap]
    constructor
    · rintro (rfl | ⟨c, hc, hd⟩)
      · exact ⟨hb, List.prefix_refl _⟩
      · obtain ⟨h1, h2⟩ := (hk c hc).1 hd
        exact ⟨h1, (ho.kin b hb c hc).2.1.trans h2⟩
    · rintro ⟨hd, hp⟩
      by_cases e : t.tx b = t.tx d
      · exact .inl (ho.inj d hd b hb e.symm)
      · obtain ⟨c, hc, h2⟩ := ho.kid b hb d hd hp e
        exact .inr ⟨c, hc, (hk c hc).2 ⟨hd, h2⟩⟩
theorem mem_sub {t : Tr} (ho : Ok t) {M : Nat} (hM : ∀ b ∈ t.B, (t.tx b).length ≤ M) {b : Nat} (hb : b ∈ t.B) (d : Nat) : d ∈ sub t M b ↔ d ∈ t.B ∧ t.tx b <+: t.tx d := mem_subF ho hM _ b hb (Nat.le_refl _) d
/-- A text ahead of another one: a beginning of it, or less where they part. -/
def Lt (p q : T) : Prop := (p <+: q ∧ p ≠ q) ∨ ∃ r x y, r ++ [x] <+: p ∧ r ++ [y] <+: q ∧ x < y
theorem Lt.pre {p q : T} (h : p <+: q) (hn : p ≠ q) : Lt p q := .inl ⟨h, hn⟩
theorem Lt.part {r p q : T} {x y : UInt8} (h1 : r ++ [x] <+: p) (h2 : r ++ [y] <+: q) (h : x < y) : Lt p q := .inr ⟨r, x, y, h1, h2, h⟩
theorem subF_lt {t : Tr} (ho : Ok t) {M : Nat} (hM : ∀ b ∈ t.B, (t.tx b).length ≤ M) : ∀ (n b : Nat), b ∈ t.B → M + 1 - (t.tx b).length ≤ n → (subF t n b).Pairwise (fun c d => Lt (t.tx c) (t.tx d))
  | 0, b, hb, hn => by have := hM b hb; omega
  | n + 1, b, hb, hn => by
    have hk : ∀ c ∈ t.ks b, M + 1 - (t.tx c).length ≤ n := fun c hc => by have := klt ho hb hc; omega
    have hm : ∀ c ∈ t.ks b, ∀ d, d ∈ subF t n c ↔ d ∈ t.B ∧ t.tx c <+: t.tx d := fun c hc d => mem_subF ho hM n c (ho.kin b hb c hc).1 (hk c hc) d
    show (b :: (t.ks b).flatMap (subF t n)).Pairwise _
    rw [List.pairwise_cons]
    refine ⟨fun d hd => ?_, ?_⟩
    · obtain ⟨c, hc, hd⟩ := List.mem_flatMap.1 hd
      obtain ⟨h1, h2⟩ := (hm c hc d).1 hd
      have hlt := klt ho hb hc
      exact .pre ((ho.kin b hb c hc).2.1.trans h2) (fun e => by have := h2.length_le; rw [← e] at this; omega)
    · rw [List.pairwise_flatMap]
      refine ⟨fun c hc => subF_lt ho hM n c (ho.kin b hb c hc).1 (hk c hc), ?_⟩
      refine (ho.srt b hb).imp_of_mem fun {c d} hc hd hcd x hx y hy => ?_
      obtain ⟨u, hu⟩ := ho.kext hb hc
      obtain ⟨v, hv⟩ := ho.kext hb hd
      exact .part (hu.trans ((hm c hc x).1 hx).2) (hv.trans ((hm d hd y).1 hy).2) (hcd u v hu hv)
end Go.Proofs.Ytnmncjeplfkdpaa.Pb
/- What Walk wants: a stack's rows in a fence, the list that is left. No condition. -/
namespace Go.Proofs.Ytnmncjeplfkdpaa.Pb
open Go.RowKit Go.Shelf
theorem ownsRow_of_block {w w' : World} {base : Nat} {e : TypeId} {size n : Nat} {v : Value} {xs : List Value} (h : w.ownsRow base e size v n xs) (k : ∀ g, v.ownBlock = some g → w'.heap[g]? = w.heap[g]?) : w'.ownsRow base e size v n xs := by
  refine ⟨h.1, ?_⟩
  rcases h.2 with h' | ⟨g, cap, cur, rfl, hb, hg, hnc, hcm, hcs, ht⟩
  · exact .inl h'
  · exact .inr ⟨g, cap, cur, rfl, hb, (k g rfl).trans hg, hnc, hcm, hcs, ht⟩
/-- Behind a function's end: the records' blocks are no row's. -/
theorem ownsRow_recs {w w' : World} {base B : Nat} {e : TypeId} {size n : Nat} {v : Value} {xs : List Value} {ds : List Nat} (h : w.ownsRow base e size v n xs) (hr : Rec w B ds) (hf : Fr (fun y => y ∈ ds) w w') : w'.ownsRow base e size v n xs := by
  rcases h.2 with h' | ⟨g, cap, cur, hv, hb, hg, hnc, hcm, hcs, ht⟩
  · exact ⟨h.1, .inl h'⟩
  · refine ownsRow_of_block h fun g' hg' => ?_
    rw [hv] at hg'
    have e1 : g = g' := by
      have h1 : some g = some g' := hg'
      injection h1
    subst e1
    refine hf.block g (Array.getElem?_eq_some_iff.1 hg).1 (fun hm => ?_)
    have := (hr.at_ g hm).2
    rw [hg] at this
    cases this
theorem ownsRow_ks {w : World} {base : Nat} {v : Value} {l : List Nat} (h : w.ownsRow base 71 1 v l.length (l.map ptr)) : KsAt w v l := by
  refine ⟨h.1, ?_⟩
  rcases h.2 with h' | ⟨g, cap, cur, hv, hb, hg, r⟩
  · exact .inl h'
  · exact .inr ⟨g, cap, cur, hv, Nat.zero_le _, hg, r⟩
theorem mark_pushI {F : Fence} {n : Nat} {w : World} {base : Nat} {v : Value} {l : List Pa.Mk} {ops : Array Oper} {rest : List Oper} {o : Oper} {a : Act} {Q : Exit → Act → World → Prop} (hO : w.ownsRow base 63 2 v l.length (Pa.cellsM l)) (hb : base ≤ w.heap.size) (hgd : o.guard = none) (s x : Operand)
    (ho : o.op = .call { callee := .builtin .append, args := #[s, x], argTypes := #[35, 35] }) (hs : a.eval s = v) (m : Pa.Mk) (Te : TypeId) (hx : a.eval x = .slice (some ⟨w.heap.size, 0, none⟩) 1 1) (hl : l.length ≤ 1000000000)
    (h : ∀ v' w', w'.ownsRow base 63 2 v' (l.length + 1) (Pa.cellsM (l ++ [m])) → (w.alloc (.cells #[.string m.1, .int .i64 m.2] Te)).grownBy w' v.ownBlock → wpListIn F n Try.prog ops Q rest (a.put o.dst v') w') : wpListIn F n Try.prog ops Q (o :: rest) a (w.alloc (.cells #[.string m.1, .int .i64 m.2] Te)) := by
  obtain ⟨i0, hi, hz0, hz1, hz2⟩ := info_parts Pa.iMk
  have hO2 := hO.kept (World.grownBy_alloc w (.cells #[.string m.1, .int .i64 m.2] Te) none) (by cases v.ownBlock <;> simp)
  refine wpListIn_append_own _ hgd s x 35 ho base 63 i0 (.agg #[.string ⟨#[]⟩, .int .i64 0]) 2 24 Try.underlying35 hi hz0 hz1 hz2 rfl (by decide) v l.length (Pa.cellsM l) hs hO2 ⟨w.heap.size, 0, none⟩ 1 1 [.string m.1, .int .i64 m.2] hx rfl
    (fun j u hj => by rw [Addr.add_lit, Nat.zero_add, World.cell?_alloc_new]; simpa using hj)
    (fun u hu => by
      simp only [List.mem_cons, List.not_mem_nil, or_false] at hu
      rcases hu with rfl | rfl <;> rfl) (by unfold maxLen; omega) (by omega) (by simp; omega) ?_
  intro v' w' r1 r2 _
  exact h v' w' (by rw [Pa.cellsM_app]; exact r1) r2
theorem iPtr : (Try.prog.info? 71).map (fun i => (i.zero, i.size, i.bytes)) = some (some (.pointer none), 1, 8) := by kernel_rfl
theorem ptr_pushI {F : Fence} {n : Nat} {w : World} {base : Nat} {v : Value} {l : List Nat} {ops : Array Oper} {rest : List Oper} {o : Oper} {a : Act} {Q : Exit → Act → World → Prop} (hO : w.ownsRow base 71 1 v l.length (l.map ptr)) (hb : base ≤ w.heap.size) (hgd : o.guard = none) (s x : Operand)
    (ho : o.op = .call { callee := .builtin .append, args := #[s, x], argTypes := #[72, 72] }) (hs : a.eval s = v) (c : Nat) (Te : TypeId) (hx : a.eval x = .slice (some ⟨w.heap.size, 0, none⟩) 1 1) (hl : l.length ≤ 1000000000)
    (h : ∀ v' w', w'.ownsRow base 71 1 v' (l.length + 1) ((l ++ [c]).map ptr) → (w.alloc (.cells #[.pointer (some ⟨c, 0, none⟩)] Te)).grownBy w' v.ownBlock → wpListIn F n Try.prog ops Q rest (a.put o.dst v') w') : wpListIn F n Try.prog ops Q (o :: rest) a (w.alloc (.cells #[.pointer (some ⟨c, 0, none⟩)] Te)) := by
  obtain ⟨i0, hi, hz0, hz1, hz2⟩ := info_parts iPtr
  have hO2 := hO.kept (World.grownBy_alloc w (.cells #[.pointer (some ⟨c, 0, none⟩)] Te) none) (by cases v.ownBlock <;> simp)
  refine wpListIn_append_own _ hgd s x 72 ho base 71 i0 (.pointer none) 1 8 Try.underlying72 hi hz0 hz1 hz2 rfl (by decide) v l.length (l.map ptr) hs hO2 ⟨w.heap.size, 0, none⟩ 1 1 [.pointer (some ⟨c, 0, none⟩)] hx rfl
    (fun j u hj => by rw [Addr.add_lit, Nat.zero_add, World.cell?_alloc_new]; simpa using hj)
    (fun u hu => by
      simp only [List.mem_cons, List.not_mem_nil, or_false] at hu
      subst hu; rfl) (by unfold maxLen; omega) (by omega) (by simp; omega) ?_
  intro v' w' r1 r2 _
  exact h v' w' (by rw [List.map_append]; exact r1) r2
/-- What is left of a walk: the stack's nodes with all below them, the last one first. -/
def left (t : Tr) (M : Nat) (st : List Nat) : List Nat := st.reverse.flatMap (sub t M)
theorem left_nil (t : Tr) (M : Nat) : left t M [] = [] := rfl
theorem left_pop {t : Tr} (ho : Ok t) {M : Nat} (hM : ∀ b ∈ t.B, (t.tx b).length ≤ M) (st : List Nat) {c : Nat} (hc : c ∈ t.B) : left t M (st ++ [c]) = c :: left t M (st ++ (t.ks c).reverse) := by
  unfold left
  rw [List.reverse_append, List.reverse_append, List.reverse_reverse, List.flatMap_append, List.flatMap_append, List.reverse_singleton, List.flatMap_cons, List.flatMap_nil, List.append_nil, sub_eq ho hM hc]
  rfl
theorem left_one (t : Tr) (M b : Nat) : left t M [b] = sub t M b := by simp [left]
def mkL (t : Tr) (l : List Nat) : List Pa.Mk := l.filterMap fun b => (t.nm b).map fun n => (bs (t.tx b), n)
theorem mkL_no {t : Tr} {b : Nat} (l : List Nat) (h : t.nm b = none) : mkL t (b :: l) = mkL t l := by simp [mkL, h]
theorem mkL_yes {t : Tr} {b : Nat} {n : Int} (l : List Nat) (h : t.nm b = some n) : mkL t (b :: l) = (bs (t.tx b), n) :: mkL t l := by simp [mkL, h]
theorem mkL_le (t : Tr) (l : List Nat) : (mkL t l).length ≤ l.length := List.length_filterMap_le _ _
theorem Lt.irr {p : T} (h : Lt p p) : False := by
  rcases h with ⟨-, h⟩ | ⟨r, x, y, h1, h2, h3⟩
  · exact h rfl
  · have := ext_one h1 h2
    subst this
    exact ulirr x h3
theorem sub_nd {t : Tr} (ho : Ok t) {M : Nat} (hM : ∀ b ∈ t.B, (t.tx b).length ≤ M) {b : Nat} (hb : b ∈ t.B) : (sub t M b).Nodup := (subF_lt ho hM _ b hb (Nat.le_refl _)).imp fun h e => by subst e; exact h.irr
theorem nd_le : ∀ {l r : List Nat}, l.Nodup → (∀ x ∈ l, x ∈ r) → l.length ≤ r.length
  | [], _, _, _ => Nat.zero_le _
  | x :: l, r, hn, hs => by
    obtain ⟨h1, h2⟩ := List.nodup_cons.1 hn
    have hx := hs x (List.mem_cons_self ..)
    have h3 := nd_le (r := r.erase x) h2 (fun y hy => (List.mem_erase_of_ne (fun (e : y = x) => h1 (by rw [← e]; exact hy))).2 (hs y (List.mem_cons_of_mem _ hy)))
    rw [List.length_erase_of_mem hx] at h3
    have := List.length_pos_of_mem hx
    rw [List.length_cons]
    omega
theorem sub_le {t : Tr} (ho : Ok t) {M : Nat} (hM : ∀ b ∈ t.B, (t.tx b).length ≤ M) {b : Nat} (hb : b ∈ t.B) : (sub t M b).length ≤ t.B.length := nd_le (sub_nd ho hM hb) fun x hx => ((mem_sub ho hM hb x).1 hx).1
theorem left_len {t : Tr} (ho : Ok t) {M : Nat} (hM : ∀ b ∈ t.B, (t.tx b).length ≤ M) {st : List Nat} (h : ∀ c ∈ st, c ∈ t.B) : st.length ≤ (left t M st).length := by
  have key : ∀ l : List Nat, (∀ c ∈ l, c ∈ t.B) → l.length ≤ (l.flatMap (sub t M)).length := by
    intro l
    induction l with
    | nil => intro _; exact Nat.zero_le _
    | cons c l ih =>
      intro hl
      have h1 := ih (fun d hd => hl d (List.mem_cons_of_mem _ hd))
      rw [List.flatMap_cons, List.length_append, sub_eq ho hM (hl c (List.mem_cons_self ..)), List.length_cons, List.length_cons]
      omega
  have := key st.reverse (fun c hc => h c (List.mem_reverse.1 hc))
  rw [List.length_reverse] at this
  exact this
theorem rec_own {β : Type} {B0 B : Nat} {ds : List Nat} (h : ∀ D ∈ ds, D < B) : OwnFrom B (fun (_ : β) W => Rec W B0 ds) := fun s W W' row hs hg hr => hs.keep fun D hD => hg.block D (hs.lt hD) (fun e => by
  have := (hr D e.symm).1
  have := h D hD
  omega)
end Go.Proofs.Ytnmncjeplfkdpaa.Pb
/- A walk's stack and its list side by side, in memory. No condition. -/
namespace Go.Proofs.Ytnmncjeplfkdpaa.Pb
open Go.RowKit Go.Shelf
theorem row_ge {W : World} {B : Nat} {e : TypeId} {s n : Nat} {v : Value} {xs : List Value} (h : W.ownsRow B e s v n xs) : ∀ j, v.ownBlock = some j → B ≤ j ∧ ∃ cur, W.heap[j]? = some (.cells cur e (0, 0)) := by
  intro j hj
  rcases h.2 with ⟨rfl, _⟩ | ⟨g, cap, cur, rfl, hb, hg, _⟩
  · cases hj
  · have e1 : g = j := by
      have h1 : some g = some j := hj
      injection h1
    subst e1
    exact ⟨hb, cur, hg⟩
theorem row_mono {W : World} {B B' : Nat} {e : TypeId} {s n : Nat} {v : Value} {xs : List Value} (hB : B' ≤ B) (h : W.ownsRow B e s v n xs) : W.ownsRow B' e s v n xs := by
  refine ⟨h.1, ?_⟩
  rcases h.2 with h' | ⟨g, cap, cur, e1, hb, r⟩
  · exact .inl h'
  · exact .inr ⟨g, cap, cur, e1, Nat.le_trans hB hb, r⟩
theorem rows_apart {W : World} {B B' : Nat} {e e' : TypeId} {s s' n n' : Nat} {v v' : Value} {xs xs' : List Value} (h : W.ownsRow B e s v n xs) (h' : W.ownsRow B' e' s' v' n' xs') (hte : e ≠ e') : v.ownBlock = none ∨ v.ownBlock ≠ v'.ownBlock := by
  cases hv : v.ownBlock with
  | none => exact .inl rfl
  | some j =>
    refine .inr fun e1 => ?_
    obtain ⟨-, cur, h1⟩ := row_ge h j hv
    obtain ⟨-, cur', h2⟩ := row_ge h' j e1.symm
    rw [h1] at h2
    injection h2 with h2
    injection h2 with _ h2 _
    exact hte h2
theorem below_grown {B : Nat} {W W' : World} {row : Option Nat} (hg : W.grownBy W' row) (hB : B ≤ W.heap.size) (hr : ∀ j, row = some j → B ≤ j) : Below B W W' := ⟨hg.os, hg.tape, hg.output, hg.size, fun k hk => hg.block k (Nat.lt_of_lt_of_le hk hB) (fun e => by have := hr k e.symm; omega)⟩
theorem Rec.grown {W W' : World} {B : Nat} {ds : List Nat} {row : Option Nat} (h : Rec W B ds) (hg : W.grownBy W' row) (hr : ∀ j, row = some j → ∃ cur e, W.heap[j]? = some (.cells cur e (0, 0))) : Rec W' B ds := h.keep fun D hD => hg.block D (h.lt hD) (fun e => by
  obtain ⟨cur, e2, h1⟩ := hr D e.symm
  rw [(h.at_ D hD).2] at h1
  cases h1)
/-- What stands between two rounds. -/
structure WS (w1 wr : World) (ds : List Nat) (u : Value) (out : List Pa.Mk) (st : List Nat) (vst : Value) : Prop where
  bel : Below w1.heap.size w1 wr
  row : wr.ownsRow w1.heap.size 63 2 u out.length (Pa.cellsM out)
  box : Boxed wr (w1.heap.size + 1) 72 vst
  srow : wr.ownsRow w1.heap.size 71 1 vst st.length (st.map ptr)
  rcs : Rec wr w1.heap.size ds
variable {w1 W w' : World} {ds : List Nat} {u v v' : Value} {out : List Pa.Mk} {st : List Nat} {tmp : Obj}
theorem WS.on (h : WS w1 W ds u out st v) (hb : Below W.heap.size W w') : WS w1 w' ds u out st v :=
  ⟨h.bel.trans (hb.mono h.bel.size), h.row.kept (grow0 hb) (by cases u.ownBlock <;> simp), h.box.kept (grow0 hb) (by simp), h.srow.kept (grow0 hb) (by cases v.ownBlock <;> simp), h.rcs.grown (grow0 hb) (fun j e => by cases e)⟩
theorem WS.more (h : WS w1 W ds u out st v) (o : Obj) : WS w1 (W.alloc o) ds u out st v := h.on ((Below.refl _ W).alloc (Nat.le_refl _) o)
theorem WS.pop {c k cap g : Nat} (h : WS w1 W ds u out (st ++ [c]) (.slice (some ⟨g, 0, none⟩) (k + 1) cap)) (hk : st.length = k) : WS w1 (W.setCell ⟨w1.heap.size + 1, 0, none⟩ (.slice (some ⟨g, 0, none⟩) k cap)) ds u out st (.slice (some ⟨g, 0, none⟩) k cap) := by
  have hg := grownBy_setCell' W (w1.heap.size + 1) (.slice (some ⟨g, 0, none⟩) k cap)
  have hs := h.srow
  rw [List.length_append, List.length_singleton, hk] at hs
  have hc := ownsRow_cut hs (k := k) (by omega)
  have e1 : ((st ++ [c]).map ptr).take (k * 1) = st.map ptr := by rw [Nat.mul_one, List.map_append, List.take_left' (by simp [hk])]
  rw [e1] at hc
  exact ⟨h.bel.setCell (p := ⟨w1.heap.size + 1, 0, none⟩) (Nat.le_succ _) _, h.row.kept hg (.inr (h.box.not_row (by decide) h.row).symm), h.box.set _, by rw [hk]; exact hc.kept hg (.inr (h.box.not_row (by decide) hc).symm), h.rcs.grown hg (fun j e => by cases e; exact ⟨_, _, h.box⟩)⟩
theorem WS.pushM {m : Pa.Mk} (h : WS w1 W ds u out st v) (hown : w'.ownsRow w1.heap.size 63 2 v' (out.length + 1) (Pa.cellsM (out ++ [m]))) (hg : (W.alloc tmp).grownBy w' u.ownBlock) : WS w1 w' ds v' (out ++ [m]) st v := by
  have ha := h.more tmp
  have hr := row_ge ha.row
  exact ⟨ha.bel.trans (below_grown hg ha.bel.size (fun j e => (hr j e).1)), by rw [List.length_append]; exact hown, ha.box.kept hg (ha.box.not_row (by decide) ha.row), ha.srow.kept hg (rows_apart ha.srow ha.row (by decide)), ha.rcs.grown hg (fun j e => by
    obtain ⟨-, c, h1⟩ := hr j e
    exact ⟨c, _, h1⟩)⟩
theorem WS.pushS {c : Nat} (h : WS w1 W ds u out st v) (hown : w'.ownsRow w1.heap.size 71 1 v' (st.length + 1) ((st ++ [c]).map ptr)) (hg : (W.alloc tmp).grownBy w' v.ownBlock) :
    Boxed w' (w1.heap.size + 1) 72 v ∧ KeepsOthers W (w'.setCell ⟨w1.heap.size + 1, 0, none⟩ v') ∧ Below w1.heap.size W (w'.setCell ⟨w1.heap.size + 1, 0, none⟩ v') ∧ WS w1 (w'.setCell ⟨w1.heap.size + 1, 0, none⟩ v') ds u out (st ++ [c]) v' := by
  obtain ⟨a1, a2, a3, a4, a5⟩ := h.box.appended (by decide) h.srow h.bel.size (Nat.le_succ _) hown hg
  have ha := h.more tmp
  have hu1 := ha.row.kept hg (rows_apart ha.row ha.srow (by decide))
  have hg2 := grownBy_setCell' w' (w1.heap.size + 1) v'
  have hr := row_ge ha.srow
  exact ⟨a1, a4, a5, ⟨h.bel.trans a5, hu1.kept hg2 (.inr (a1.not_row (by decide) hu1).symm), a2, by rw [List.length_append]; exact a3, (ha.rcs.grown hg (fun j e => by
    obtain ⟨-, c, h1⟩ := hr j e
    exact ⟨c, _, h1⟩)).grown hg2 (fun j e => by cases e; exact ⟨_, _, a1⟩)⟩⟩
theorem WS.pushBox {Bs : Nat} {x : Value} (h : WS w1 W ds u out st v) (hx : Boxed W Bs 72 x) (hne : Bs ≠ w1.heap.size + 1) (hg : (W.alloc tmp).grownBy w' v.ownBlock) : Boxed (w'.setCell ⟨w1.heap.size + 1, 0, none⟩ v') Bs 72 x :=
  ((hx.alloc tmp).kept hg ((hx.alloc tmp).not_row (by decide) (h.more tmp).srow)).kept (grownBy_setCell' w' (w1.heap.size + 1) v') (by simp [hne])
theorem WS.own {α : Type} {B : Nat} (hB : w1.heap.size ≤ B) (hd : ∀ D ∈ ds, D < B) (F : α → List Nat) : OwnFrom B (fun s W => ∃ v, WS w1 W ds u out (F s) v) := by
  rintro s W W' row ⟨v, h⟩ hg hr
  have hnc : ∀ {b : Nat} {cur : Array Value} {e : TypeId}, W.heap[b]? = some (.cells cur e (0, 0)) → some b ≠ row := fun hb e' => by
    obtain ⟨-, o, ho, hc⟩ := hr _ e'.symm
    rw [hb] at ho
    cases ho
    cases hc
  have hrow : ∀ {e : TypeId} {s n : Nat} {v : Value} {xs : List Value}, W.ownsRow w1.heap.size e s v n xs → v.ownBlock = none ∨ v.ownBlock ≠ row := fun {e s n v xs} h1 => by
    cases hv : v.ownBlock with
    | none => exact .inl rfl
    | some j =>
      obtain ⟨-, cur, h2⟩ := row_ge h1 j hv
      exact .inr (hnc h2)
  exact ⟨v, h.bel.trans (below_grown hg h.bel.size (fun j e => Nat.le_trans hB (hr j e).1)), h.row.kept hg (hrow h.row), h.box.kept hg (hnc h.box), h.srow.kept hg (hrow h.srow), h.rcs.keep fun D hD => hg.block D (h.rcs.lt hD) (fun e => by
    have := (hr D e.symm).1
    have := hd D hD
    omega)⟩
theorem WS.rec_ (h : WS w1 W ds u out st v) {D : Nat} (hD : D ∉ ds) (hB : w1.heap.size ≤ D) (hK : W.heap[D]? = some (.deferred (some []))) : WS w1 W (D :: ds) u out st v := ⟨h.bel, h.row, h.box, h.srow, h.rcs.more hD hB hK⟩
end Go.Proofs.Ytnmncjeplfkdpaa.Pb
/- Walk: the marks that begin so. Conditions: the tree as it lies; bounds. -/
namespace Go.Proofs.Ytnmncjeplfkdpaa.Pb
open Go.RowKit Go.Shelf
attribute [local go_sem] Oper.semAt_some
/-- What Walk answers. -/
def WalkL (t : Tr) (K : T) (ys : List Pa.Mk) : Prop := ∃ b, Lst t K b ∧ (((t.tx b).length < K.length ∧ ys = []) ∨ (K.length ≤ (t.tx b).length ∧ ys = mkL t (sub t 140737488351232 b)))
/-- What is left to do. -/
structure WI (t : Tr) (b g : Nat) (out : List Pa.Mk) (st : List Nat) : Prop where
  inb : ∀ c ∈ st, c ∈ t.B
  eq : mkL t (sub t 140737488351232 b) = out ++ mkL t (left t 140737488351232 st)
  ln : (left t 140737488351232 st).length < g
  gl : g ≤ 1000001
theorem mkL_cons (t : Tr) (c : Nat) (l : List Nat) : mkL t (c :: l) = mkL t [c] ++ mkL t l := by
  unfold mkL
  rw [← List.filterMap_append]
  rfl
theorem WI.out_le {t : Tr} (ho : Ok t) (hM : ∀ b ∈ t.B, (t.tx b).length ≤ 140737488351232) {b g : Nat} {out : List Pa.Mk} {st : List Nat} (h : WI t b g out st) (hb : b ∈ t.B) : out.length ≤ t.B.length := by
  have h1 := congrArg List.length h.eq
  rw [List.length_append] at h1
  have h2 := mkL_le t (sub t 140737488351232 b)
  have h3 := sub_le ho hM hb
  omega
theorem WI.next {t : Tr} (ho : Ok t) (hM : ∀ b ∈ t.B, (t.tx b).length ≤ 140737488351232) {b g c : Nat} {out : List Pa.Mk} {st : List Nat} (h : WI t b g out (st ++ [c])) : WI t b (g - 1) (out ++ mkL t [c]) (st ++ (t.ks c).reverse) ∧ 0 < g ∧ st.length + (t.ks c).length ≤ 1000000 ∧ c ∈ t.B ∧ st.length + 1 ≤ 1000000 := by
  have hc := h.inb c (by simp)
  have e := left_pop ho hM st hc
  have h1 := h.ln
  have h2 := h.gl
  have hin : ∀ d ∈ st ++ (t.ks c).reverse, d ∈ t.B := fun d hd => by
    rcases List.mem_append.1 hd with hd | hd
    · exact h.inb d (List.mem_append.2 (.inl hd))
    · exact (ho.kin c hc d (List.mem_reverse.1 hd)).1
  have h3 := left_len ho hM hin
  have h4 := left_len ho hM h.inb
  rw [List.length_append] at h3 h4
  rw [List.length_reverse] at h3
  have h6 : [c].length = 1 := rfl
  have h5 : (left t 140737488351232 (st ++ [c])).length = (left t 140737488351232 (st ++ (t.ks c).reverse)).length + 1 := by rw [e, List.length_cons]
  refine ⟨⟨hin, ?_, by omega, by omega⟩, by omega, by omega, hc, by omega⟩
  rw [h.eq, e, mkL_cons, List.append_assoc]
end Go.Proofs.Ytnmncjeplfkdpaa.Pb
