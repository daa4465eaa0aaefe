/- Two steps of a region that draws: a call of a Go function by its contract; append on a row of the call's own. -/
import Derived.Test.YthngmmdfidhhpaaDoorVd1
import Derived.Deep.RegionLaw
import Derived.Laws.AppendOwn
namespace Go.Proofs.YthngmmdfidhhpaaDoor
open Go.ChangeShapes Go.WideShapes Go.ChangeAt Go.RowKit

theorem step_fn {P : Program} {ops : Array Oper} {o : Oper} {a : Act} {w : World} {K : Act → World → Prop} {Q : Exit → Act → World → Prop} {E : Prop} (hg : o.guard = none) (f : FuncId)
    (hop : o.op = Op.call { callee := Callee.value (Operand.func f), args := #[], argTypes := #[] }) {R : World → Prop} (v : Value) (hrun : ∀ w, (callFunc f #[]).run P w = .ok (.enter f #[]) w) (h : Calls P f #[] w fun e w' => e = .returned v ∧ R w') (hK : ∀ w', R w' → K (a.put o.dst v) w') :
    if Region.wanted o (yielded ops a.tmps) = true then Oper.wp P o a w K Q else E := by
  have hw : Region.wanted o (yielded ops a.tmps) = true := by simp [Region.wanted, hg]
  rw [if_pos hw]
  unfold Oper.wp
  simp [execOp, hop, resolve, invoke, Act.eval, hrun, go_sem]
  exact h.mono fun e w' he => by
    obtain ⟨rfl, hR⟩ := he
    exact hK _ hR
theorem step_append_mine {P : Program} {ops : Array Oper} {o : Oper} {a : Act} {w : World} {K : Act → World → Prop} {Q : Exit → Act → World → Prop} {E : Prop} (hg : o.guard = none) (s x : Operand) (t : TypeId)
    (hop : o.op = Op.call { callee := Callee.builtin Builtin.append, args := #[s, x], argTypes := #[t, t] }) (v u : Value) (hs : a.eval s = v) (hx : a.eval x = u) {R : Value → World → Prop}
    (h : ∃ v' w', (Builtin.append_ #[t, t] o.type #[v, u]).run P w = .ok v' w' ∧ R v' w') (hK : ∀ v' w', R v' w' → K (a.put o.dst v') w') :
    if Region.wanted o (yielded ops a.tmps) = true then Oper.wp P o a w K Q else E := by
  have hw : Region.wanted o (yielded ops a.tmps) = true := by simp [Region.wanted, hg]
  rw [if_pos hw]
  obtain ⟨v', w', hrun, hR⟩ := h
  unfold Oper.wp
  simp [execOp, hop, resolve, invoke, builtin, hs, hx, hrun, Result.andThen]
  exact hK _ _ hR

theorem nil_run (w : World) : (callFunc 11 #[]).run Tryd.prog w = .ok (.enter 11 #[]) w := by kernel_rfl
/-- The Set under way: k in its list, all nothing. -/
def nils : Nat → List Value
  | 0 => []
  | k + 1 => nils k ++ [.int .i64 6, .string ⟨#[]⟩, .int .i64 0, .float .f64 0, .bool false, .slice none 0 0]
theorem nils_length (k : Nat) : (nils k).length = k * 6 := by
  induction k with
  | zero => rfl
  | succ k ih => show (nils k ++ _).length = _; rw [List.length_append, ih]; simp; omega
def SetAt (Wb B k : Nat) (v : Value) (w : World) : Prop :=
  w.cell? ⟨Wb, 5, none⟩ = some v ∧ w.frozen? ⟨Wb, 5, none⟩ = false ∧ w.ownsRow B 25 6 v k (nils k) ∧ Wb < B ∧ B ≤ w.heap.size
theorem grow_of {w w' : World} (hb : Below w.heap.size w w') : w.grownBy w' none := ⟨hb.os, hb.tape, hb.output, hb.size, fun k hk _ => hb.block k hk⟩
theorem setAt_below {Wb B k : Nat} {v : Value} {w w' : World} (h : SetAt Wb B k v w) (hb : Below w.heap.size w w') : SetAt Wb B k v w' := by
  obtain ⟨h1, h2, h3, h4, h5⟩ := h
  exact ⟨(hb.cell (p := ⟨Wb, 5, none⟩) (by show Wb < w.heap.size; omega)).trans h1, (hb.frozen (p := ⟨Wb, 5, none⟩) (by show Wb < w.heap.size; omega)).trans h2, h3.kept (grow_of hb) (by cases hv : v.ownBlock <;> simp), h4, Nat.le_trans h5 hb.size⟩

/-- Lists of one in one another, j of them, round a 7. -/
def isNest : Nat → Val → Prop
  | 0, v => ∃ a c K, v = .mk 3 ⟨#[]⟩ 7 0 false a c 0 K
  | j + 1, v => ∃ a c K, v = .mk 5 ⟨#[]⟩ 0 0 false a c 1 K ∧ isNest j (K 0)
theorem isNest.twin : ∀ {j : Nat} {v v' : Val}, Twin v v' → isNest j v → isNest j v' := by
  intro j
  induction j with
  | zero =>
    rintro v v' h ⟨a, c, K, rfl⟩
    obtain ⟨a', c', K', rfl, -⟩ := h
    exact ⟨a', c', K', rfl⟩
  | succ j ih =>
    rintro v v' h ⟨a, c, K, rfl, hk⟩
    obtain ⟨a', c', K', rfl, h2⟩ := h
    exact ⟨a', c', K', rfl, ih (h2 0 (by omega)) hk⟩
theorem isNest.facts : ∀ {j : Nat} {v : Val}, isNest j v → v.count = j + 1 ∧ v.nest = j + 1 ∧ v.depth = j ∧ v.fits ∧ v.kind ≠ 14 ∧ ∀ d, good v d = decide (j ≤ d) := by
  intro j
  induction j with
  | zero =>
    rintro v ⟨a, c, K, rfl⟩
    refine ⟨rfl, rfl, rfl, ⟨fits_none _ _ (by omega) (by decide), fun i hi => absurd hi (by omega)⟩, show (3 : Int) ≠ 14 by decide, fun d => ?_⟩
    rw [good_eq]
    rfl
  | succ j ih =>
    rintro v ⟨a, c, K, rfl, hk⟩
    obtain ⟨h1, h2, h3, h4, h5, h6⟩ := ih hk
    refine ⟨?_, ?_, ?_, ⟨fits_none _ _ (by omega) (by decide), fun i hi => ?_⟩, show (5 : Int) ≠ 14 by decide, fun d => ?_⟩
    · rw [count_eq, sumTo_succ, h1]; unfold sumTo; omega
    · show 1 + maxTo _ 1 = _
      rw [maxTo_succ, h2]; unfold maxTo; omega
    · show (if lists 5 then 1 + maxTo _ 1 else 0) = _
      rw [if_pos (by decide), maxTo_succ, h3]; unfold maxTo; omega
    · obtain rfl : i = 0 := by omega
      exact h4
    · rw [good_eq, allTo_succ, h6]
      have e1 : headB 5 ⟨#[]⟩ 0 0 false 1 = true := by decide
      have e2 : lists 5 = true := by decide
      have e3 : ((K 0).kind != 14) = true := by simpa using h5
      rw [e1, e2, e3]
      cases d with
      | zero => rfl
      | succ d => simp [allTo]
theorem isNest.check {j : Nat} {v : Val} (h : isNest j v) (hj : j ≤ 40) : checkN v = if j ≤ 8 then 0 else 31 := by
  obtain ⟨h1, -, -, -, -, h6⟩ := h.facts
  unfold checkN
  rw [h1, h6 8, decide_eq_true (show j + 1 ≤ 1000 by omega), Bool.and_true]
  by_cases h : j ≤ 8
  · rw [if_pos h, decide_eq_true h]; rfl
  · rw [if_neg h, decide_eq_false h]; rfl
/-- The law's nested list in its variable. -/
def Nested (V j : Nat) (w : World) : Prop := V < w.heap.size ∧ (∀ i, i < 6 → w.frozen? ⟨V, i, none⟩ = false) ∧ ∃ x, isNest j x ∧ At w V 0 x ∧ Lies (fun b => b < w.heap.size) w x
theorem Nested.below {V j : Nat} {w w' : World} (h : Nested V j w) (hb : Below w.heap.size w w') : Nested V j w' := by
  obtain ⟨h1, h2, x, h3, h4, h5⟩ := h
  exact ⟨Nat.lt_of_lt_of_le h1 hb.size, fun i hi => (hb.frozen (p := ⟨V, i, none⟩) h1).trans (h2 i hi), x, h3, h4.below hb h1, (h5.below hb fun _ h => h).wide fun b h => Nat.lt_of_lt_of_le h hb.size⟩
theorem Nested.put {V j : Nat} {w : World} {v : Val} {lo : Nat} (h : V < w.heap.size) (hf : ∀ i, i < 6 → w.frozen? ⟨V, i, none⟩ = false) (hc : ∀ i, i < 6 → ∃ x, w.cell? ⟨V, i, none⟩ = some x) (hv : isNest j v) (hn : New lo w v) (hlo : V < lo) : Nested V j (putVal w V 0 v) := by
  refine ⟨by rw [putVal_size]; exact h, fun i hi => by rw [putVal_frozen]; exact hf i hi, v, hv, ?_, hn.lies.keep fun b hb => ⟨by rw [putVal_size]; exact hb.2, fun o => putVal_other _ _ _ _ _ _ (.inl (by omega))⟩⟩
  cases v with
  | no => exact hn.elim
  | mk k t z r f a c n K => exact putVal_at _ _ _ _ _ _ _ _ _ _ _ _ fun i hi => by rw [Nat.zero_add]; exact hc i hi
theorem nil_lit (w : World) : Calls Tryd.prog 11 #[] w fun e w' => e = .returned (.agg #[.int .i64 6, .string ⟨#[]⟩, .int .i64 0, .float .f64 0, .bool false, .slice none 0 0]) ∧ Below w.heap.size w w' := vnil_calls w
/-- The law's two variables, the Set with k in it. -/
def Filled (w : World) (V j Wb k : Nat) (v : World) : Prop :=
  Below w.heap.size w v ∧ w.heap.size ≤ Wb ∧ V < Wb ∧ (∃ x, isNest j x ∧ At v V 0 x ∧ Lies (fun b => b < Wb) v x) ∧
  ∃ a c, At v Wb 0 (.mk 13 ⟨#[]⟩ 0 0 false a c k fun _ => vNil) ∧ SetAt Wb (Wb + 1) k (.slice a k c) v
/-- .. with the Set's list still to be stored. -/
def Filling (w : World) (V j Wb k : Nat) (l u : Value) (v : World) : Prop :=
  Below w.heap.size w v ∧ w.heap.size ≤ Wb ∧ V < Wb ∧ (∃ x, isNest j x ∧ At v V 0 x ∧ Lies (fun b => b < Wb) v x) ∧
  (∃ a c, At v Wb 0 (.mk 13 ⟨#[]⟩ 0 0 false a c k fun _ => vNil) ∧ l = .slice a k c) ∧ v.frozen? ⟨Wb, 5, none⟩ = false ∧
  (∃ g cap, u = .slice (some ⟨g, 0, none⟩) (k + 1) cap) ∧ v.ownsRow (Wb + 1) 25 6 u (k + 1) (nils (k + 1)) ∧ Wb + 1 ≤ v.heap.size
theorem append_nils {w : World} {V j Wb k : Nat} {v wn : World} {a : Option Addr} {c : Nat} (h : Filled w V j Wb k v) (hl : v.cell? ⟨Wb, 5, none⟩ = some (.slice a k c)) (hb : Below v.heap.size v wn) (hk : k < 2000) :
    ∃ v' w', (Builtin.append_ #[23, 23] 23 #[.slice a k c, .slice (some ⟨wn.heap.size, 0, none⟩) 1 1]).run Tryd.prog
      (wn.alloc (.cells #[.int .i64 6, .string ⟨#[]⟩, .int .i64 0, .float .f64 0, .bool false, .slice none 0 0] 25)) = .ok v' w' ∧ Filling w V j Wb k (.slice a k c) v' w' := by
  obtain ⟨h1, h2, h3, ⟨x, h4, h5, h6⟩, a2, c2, h7, h8⟩ := h
  obtain ⟨rfl, rfl⟩ : a = a2 ∧ c = c2 := by
    have e := hl.symm.trans h7.lits.2.2.2.2.2
    injection e with e
    injection e with e1 e2 e3
    exact ⟨e1, e3⟩
  have hsz := h8.2.2.2.2
  have h8n := setAt_below h8 hb
  obtain ⟨i0, hi, hz0, hz1, hz2⟩ := info_parts info25
  have hlen : ([.int .i64 6, .string ⟨#[]⟩, .int .i64 0, .float .f64 0, .bool false, .slice none 0 0] : List Value).length = 1 * 6 := rfl
  obtain ⟨v', w', hrun, hown, hgr, hne⟩ := run_append_own (P := Tryd.prog) (w := wn.alloc (.cells #[.int .i64 6, .string ⟨#[]⟩, .int .i64 0, .float .f64 0, .bool false, .slice none 0 0] 25)) (Wb + 1) 23 23 25 i0 _ 6 72 Tryd.underlying23 hi hz0 hz1 hz2 rfl (by decide)
    _ k (nils k) (h8n.2.2.1.alloc _) ⟨wn.heap.size, 0, none⟩ 1 1 [.int .i64 6, .string ⟨#[]⟩, .int .i64 0, .float .f64 0, .bool false, .slice none 0 0] hlen (fun q u hq => by
      have : (Addr.add ⟨wn.heap.size, 0, none⟩ q) = ⟨wn.heap.size, q, none⟩ := by rw [Addr.add_lit, Nat.zero_add]
      rw [this, World.cell?_alloc_new]
      simpa using hq) (fun u hu => by simp at hu; rcases hu with rfl | rfl | rfl | rfl | rfl | rfl <;> rfl) (by unfold maxLen; omega) (by omega) (by have := h8n.2.2.2.2; simp; omega)
  refine ⟨v', w', hrun, ?_⟩
  have hown_lt : ∀ q, (Value.slice a k c).ownBlock = some q → Wb + 1 ≤ q := fun q hq => (h8n.2.2.1.lt q hq).1
  have hB1 : Below (Wb + 1) v w' := ((hb.mono hsz).alloc (Nat.le_trans hsz hb.size) _).grown hgr (by have := h8n.2.2.2.2; simp; omega) hown_lt
  refine ⟨h1.trans (hB1.mono (by omega)), h2, h3, ⟨x, h4, h5.below hB1 (by omega), h6.below hB1 fun b hb => by omega⟩, ⟨a, c, h7.below hB1 (by omega), rfl⟩, (hB1.frozen (p := ⟨Wb, 5, none⟩) (by show Wb < Wb + 1; omega)).trans h8.2.1, ?_, hown, Nat.le_trans hsz hB1.size⟩
  rcases hown.2 with ⟨rfl, h⟩ | ⟨g, cap, cur, rfl, -⟩
  · omega
  · exact ⟨g, cap, rfl⟩
theorem fill_step {w : World} {V j Wb k : Nat} {l u : Value} {v : World} (h : Filling w V j Wb k l u v) : Filled w V j Wb (k + 1) (v.setCell ⟨Wb, 5, none⟩ u) := by
  obtain ⟨h1, h2, h3, ⟨x, h4, h5, h6⟩, ⟨a, c, h7, -⟩, h8, ⟨g, cap, rfl⟩, h10, h11⟩ := h
  have hB : Below Wb v (v.setCell ⟨Wb, 5, none⟩ (.slice (some ⟨g, 0, none⟩) (k + 1) cap)) := Below.setCell (p := ⟨Wb, 5, none⟩) (Below.refl Wb v) (Nat.le_refl _) _
  have ho : ∀ q, q ≠ 5 → (v.setCell ⟨Wb, 5, none⟩ (.slice (some ⟨g, 0, none⟩) (k + 1) cap)).cell? ⟨Wb, q, none⟩ = v.cell? ⟨Wb, q, none⟩ := fun q hq => World.cell?_setCell_other _ _ _ _ (addr_ne (.inr (Ne.symm hq)))
  obtain ⟨x0, x1, x2, x3, x4, x5⟩ := h7.lits
  have hs : (v.setCell ⟨Wb, 5, none⟩ (.slice (some ⟨g, 0, none⟩) (k + 1) cap)).cell? ⟨Wb, 5, none⟩ = some (.slice (some ⟨g, 0, none⟩) (k + 1) cap) := World.cell?_setCell_same v _ _ x5
  refine ⟨h1.trans (hB.mono h2), h2, h3, ⟨x, h4, h5.below hB h3, h6.below hB fun b hb => hb⟩, _, cap, ⟨(ho 0 (by omega)).trans x0, (ho 1 (by omega)).trans x1, (ho 2 (by omega)).trans x2, (ho 3 (by omega)).trans x3, (ho 4 (by omega)).trans x4, hs⟩,
    hs, by rw [World.frozen?_setCell]; exact h8, ownsRow_setCell_below h10 (by show Wb < Wb + 1; omega) _, by omega, by simpa using h11⟩
theorem nils_get : ∀ (m i q : Nat), i < m → q < 6 → (nils m)[i * 6 + q]? = ([.int .i64 6, .string ⟨#[]⟩, .int .i64 0, .float .f64 0, .bool false, .slice none 0 0] : List Value)[q]? := by
  intro m
  induction m with
  | zero => intro i q h; omega
  | succ m ih =>
    intro i q hi hq
    show (nils m ++ _)[i * 6 + q]? = _
    by_cases e : i < m
    · rw [List.getElem?_append_left (by rw [nils_length]; omega)]
      exact ih i q e hq
    · obtain rfl : i = m := by omega
      rw [List.getElem?_append_right (by rw [nils_length]; omega), nils_length]
      rw [show i * 6 + q - i * 6 = q by omega]
theorem set_facts {v : World} {Wb B m : Nat} {a : Option Addr} {c : Nat} (h7 : At v Wb 0 (.mk 13 ⟨#[]⟩ 0 0 false a c m fun _ => vNil)) (h8 : SetAt Wb B m (.slice a m c) v) (hm : m ≤ 2000) :
    Lies (fun b => b < v.heap.size) v (.mk 13 ⟨#[]⟩ 0 0 false a c m fun _ => vNil) ∧ (Val.mk 13 ⟨#[]⟩ 0 0 false a c m fun _ => vNil).count = m + 1 ∧ (Val.mk 13 ⟨#[]⟩ 0 0 false a c m fun _ => vNil).nest ≤ 65536 ∧
      (Val.mk 13 ⟨#[]⟩ 0 0 false a c m fun _ => vNil).fits ∧ checkN (.mk 13 ⟨#[]⟩ 0 0 false a c m fun _ => vNil) = if m < 1000 then 0 else 31 := by
  have hcnt : (Val.mk 13 ⟨#[]⟩ 0 0 false a c m fun _ => vNil).count = m + 1 := by
    rw [count_eq]
    have : ∀ n, sumTo (fun _ => vNil.count) n = n := by
      intro n
      induction n with
      | zero => rfl
      | succ n ih => rw [sumTo_succ, ih]; rfl
    rw [this]; omega
  refine ⟨?_, hcnt, ?_, ⟨fits_none _ _ (by omega) (by decide), fun i hi => ⟨fits_none _ _ (by omega) (by decide), fun i hi => absurd hi (by omega)⟩⟩, ?_⟩
  · obtain ⟨-, -, hown, -, -⟩ := h8
    rcases hown.2 with ⟨e, rfl⟩ | ⟨g, cap, cur, e, -, hg, hnc, hcm, -⟩
    · injection e with e1 e2 e3
      subst e1 e3
      exact lies_text (by decide) _
    · injection e with e1 e2 e3
      subst e1 e3
      have hglt : g < v.heap.size := (hown.lt g rfl).2
      unfold maxLen at hcm
      refine ⟨⟨by omega, by omega, by decide, by omega, by omega, by omega, hnc, by omega, by omega⟩, fun _ => ⟨g, 0, rfl, hglt⟩, fun i hi => ⟨fun b o e => ?_, lies_text (by decide) _⟩⟩
      injection e with e
      injection e with e1 e2
      subst e1 e2
      have hcell : ∀ q u, q < 6 → ([.int .i64 6, .string ⟨#[]⟩, .int .i64 0, .float .f64 0, .bool false, .slice none 0 0] : List Value)[q]? = some u → v.cell? ⟨g, 0 + i * 6 + q, none⟩ = some u := fun q u hq hu => by
        have := hown.cells rfl (i * 6 + q) u (by rw [nils_get m i q hi hq]; exact hu)
        rw [Addr.add_lit] at this
        rw [Nat.add_assoc]
        exact this
      exact ⟨by have := hcell 0 _ (by omega) rfl; rwa [Nat.add_zero] at this, hcell 1 _ (by omega) rfl, hcell 2 _ (by omega) rfl, hcell 3 _ (by omega) rfl, hcell 4 _ (by omega) rfl, hcell 5 _ (by omega) rfl⟩
  · show 1 + maxTo (fun _ => vNil.nest) m ≤ 65536
    have : ∀ n, maxTo (fun _ => vNil.nest) n ≤ 1 := by
      intro n
      induction n with
      | zero => exact Nat.zero_le _
      | succ n ih =>
        rw [maxTo_succ]
        have : vNil.nest = 1 := rfl
        omega
    have := this m
    omega
  · have hgood : good (.mk 13 ⟨#[]⟩ 0 0 false a c m fun _ => vNil) 8 = true := by
      rw [good_eq]
      have e1 : headB 13 ⟨#[]⟩ 0 0 false m = true := rfl
      have e3 : ∀ n, allTo (fun _ => vNil.kind != 14 && good vNil (8 - 1)) n = true := by
        intro n
        induction n with
        | zero => rfl
        | succ n ih => rw [allTo_succ, ih]; rfl
      rw [e1, e3]; rfl
    unfold checkN
    rw [hgood, hcnt, Bool.true_and]
    by_cases h : m < 1000
    · rw [if_pos h, decide_eq_true (by omega)]; rfl
    · rw [if_neg h, decide_eq_false (by omega)]; rfl
end Go.Proofs.YthngmmdfidhhpaaDoor
