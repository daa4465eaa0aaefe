/- Package expiry: turns, a heap of places: as they lie; Len, Less. Conditions: as they lie. -/
import Derived.Test.YtmjlhmohglbecaaGreatDoorEaC
import Derived.Deep.Quiet
import Derived.Deep.RegionLawGrows
namespace Go.Proofs.YtmjlhmohglbecaaGreatDoor.Ea
open Go.ChangeShapes Go.WideShapes Go.ChangeAt Go.RowKit
/-- The class of worlds that F names. -/
theorem wp_region_cls {P : Program} {id : Nat} {Q : Exit → Act → World → Prop} {a : Act} {w : World} {l : List Oper} {T : Type} (F : T → World) (hm : P.follows .mixedOrders = true) (hB : Region.lexB .any l.toArray = true)
    (h0 : ∃ x, w.drew = F x) (h : wpQuiet P l.toArray (fun w' => ∃ x, w' = F x) (fun a' => ∀ w', (∃ x, w' = F x) → Q .normal a' w') l a) : (Code.region id l.toArray true).wp P Q a w :=
  wp_region_quiet (C := fun w' => ∃ x, w' = F x) hm hB h0 (by simpa using h)
/-- All worlds in which what lay in w stands. -/
def Ovr (w : World) : Type := { x : World // Below w.heap.size w x }
instance (w : World) : Nonempty (Ovr w) := ⟨⟨w, Below.refl _ _⟩⟩
theorem ovr (w : World) : ∃ F : Ovr w → World, (∀ x, Below w.heap.size w (F x)) ∧ (∃ x, w.drew = F x) ∧ (∀ x w', Below (F x).heap.size (F x) w' → ∃ y, w' = F y) :=
  ⟨fun x => x.1, fun x => x.2, ⟨⟨w.drew, (Below.refl _ _).drew⟩, rfl⟩, fun x w' h => ⟨⟨w', x.2.trans (h.mono x.2.size)⟩, rfl⟩⟩
theorem q_ovr {P : Program} {f : FuncId} {args : Array Value} {w : World} {F : Ovr w → World} (hF : ∀ x w', Below (F x).heap.size (F x) w' → ∃ y, w' = F y) {x : Ovr w} {v : Value}
    (h : Calls P f args (F x) fun e w' => e = .returned v ∧ Below (F x).heap.size (F x) w') : Calls P f args (F x) fun e w' => e = .returned v ∧ ∃ y, w' = F y :=
  h.mono fun _ _ ⟨he, hb⟩ => ⟨he, hF _ _ hb⟩
def num (p : Nat) : Value := .int .i64 p
def RowN (B : Nat) (w : World) (v : Value) (ps : List Nat) : Prop := w.ownsRow B 3 1 v ps.length (ps.map num)
/-- The object turns in block t, made behind w0: of w0 all stands. -/
structure TAt (w0 : World) (t : Nat) (vh : Value) (l : List En) (w : World) (vp : Value) (ps : List Nat) : Prop where
  bel : Below w0.heap.size w0 w
  tb : w0.heap.size ≤ t
  c0 : w.cell? ⟨t, 0, none⟩ = some vh
  c1 : w.cell? ⟨t, 0 + 1, none⟩ = some vp
  ft : ∀ j, w.frozen? ⟨t, j, none⟩ = false
  row : RowN w0.heap.size w vp ps
  pt : vp.ownBlock ≠ some t
  bd : ∀ p ∈ ps, p < l.length
def enD : En := ⟨0, 0, ⟨#[]⟩⟩
/-- The order of places: that of their dues. -/
def ltT (l : List En) (i j : Nat) : Bool := ltN (l.getD i enD) (l.getD j enD)
theorem ordT (l : List En) : Ord (leB (ltT l)) := ⟨fun _ _ => ordN.total _ _, fun _ _ _ h k => ordN.trans _ _ _ h k⟩
theorem ltT_at {l : List En} {i j : Nat} (hi : i < l.length) (hj : j < l.length) : ltT l i j = ltN l[i] l[j] := by
  unfold ltT
  rw [List.getD_eq_getElem?_getD, List.getElem?_eq_getElem hi, List.getD_eq_getElem?_getD, List.getElem?_eq_getElem hj]; rfl
section
variable {w0 w w' : World} {t : Nat} {vh vp : Value} {l : List En} {ps : List Nat}
theorem RowN.form {B : Nat} (h : RowN B w vp ps) : ∃ a c, vp = .slice a ps.length c ∧ ps.length ≤ c ∧ c ≤ 9223372036854775807 ∧ ∀ i (hi : i < ps.length), ∃ g, a = some ⟨g, 0, none⟩ ∧ w.cell? ⟨g, i, none⟩ = some (num ps[i]) ∧ w.frozen? ⟨g, i, none⟩ = false ∧ B ≤ g := by
  have hr := h
  unfold RowN at hr
  rcases hr.2 with ⟨e, hn⟩ | ⟨g, cap, cur, e, hB, -, h1, h2, -, -⟩
  · exact ⟨none, 0, by rw [e, hn], by omega, Nat.zero_le _, fun i hi => absurd hi (by omega)⟩
  · subst e
    refine ⟨_, cap, rfl, h1, by unfold maxLen at h2; omega, fun i hi => ⟨g, rfl, ?_, hr.frozenAt i, hB⟩⟩
    rw [hr.cellAt i (by omega)]
    simp [hi]
theorem TAt.lt (h : TAt w0 t vh l w vp ps) : t < w.heap.size := World.block_lt_of_cell? w _ h.c0
theorem TAt.keep (h : TAt w0 t vh l w vp ps) (hb : Below w.heap.size w w') : TAt w0 t vh l w' vp ps := by
  have hT := hb.block t h.lt
  exact ⟨h.bel.trans (hb.mono h.bel.size), h.tb, (World.cell?_of_block (a := ⟨t, 0, none⟩) hT).trans h.c0, (World.cell?_of_block (a := ⟨t, 1, none⟩) hT).trans h.c1, fun j => (World.frozen?_of_block (a := ⟨t, j, none⟩) hT).trans (h.ft j), row_block h.row fun g hg => hb.block g (row_lt h.row hg), h.pt, h.bd⟩
end
set_option maxHeartbeats 4000000 in
set_option maxRecDepth 100000 in
theorem tlen_calls {w0 w : World} {t : Nat} {vh vp : Value} {l : List En} {ps : List Nat} (h : TAt w0 t vh l w vp ps) :
    Calls Tryz.prog 175 #[.pointer (some ⟨t, 0, none⟩)] w fun e w' => e = .returned (.int .i64 ps.length) ∧ w = w' := by
  obtain ⟨a, c, rfl, -, -, -⟩ := h.row.form
  have c1 := h.c1
  clear h
  go_enter Tryz.func175, Tryz.ntmps175
  go_wp2_with fail
  go_ret
  exact ⟨rfl, rfl⟩
set_option maxHeartbeats 4000000 in
set_option maxRecDepth 100000 in
theorem tless_calls {w0 w : World} {t : Nat} {vh vp : Value} {l : List En} {ps : List Nat} (hh : HpAt w0 vh l) (h : TAt w0 t vh l w vp ps) (i j : Nat) (hi : i < ps.length) (hj : j < ps.length) :
    Calls Tryz.prog 176 #[.pointer (some ⟨t, 0, none⟩), .int .i64 i, .int .i64 j] w fun e w' => e = .returned (.bool (ltT l ps[i] ps[j])) ∧ TAt w0 t vh l w' vp ps ∧ Below w.heap.size w w' := by
  have HH := Lib.hid h
  have hbi := h.bd _ (List.getElem_mem hi)
  have hbj := h.bd _ (List.getElem_mem hj)
  have HL : Hid (∀ W, Below w.heap.size w W → Calls Tryz.prog 171 #[vh, .int .i64 ps[i], .int .i64 ps[j]] W fun e w' => e = .returned (.bool (ltT l ps[i] ps[j])) ∧ Below W.heap.size W w') := Lib.hid fun W hW => by
    rw [ltT_at hbi hbj]
    exact hless_calls (hh.below (h.bel.trans (hW.mono h.bel.size))) _ _ hbi hbj
  obtain ⟨a, c, rfl, -, -, hat⟩ := h.row.form
  obtain ⟨g, rfl, d0, -, -⟩ := hat i hi
  obtain ⟨g', e, d1, -, -⟩ := hat j hj
  cases e
  have c0 := h.c0
  have c1 := h.c1
  have bi : (i : Int) < (ps.length : Int) := by omega
  have bj : (j : Int) < (ps.length : Int) := by omega
  clear hat h hh
  unfold num at d0 d1
  generalize ltT l ps[i] ps[j] = r at *
  generalize ps[i] = p at *
  generalize ps[j] = q at *
  obtain ⟨F, F1, F2, F3⟩ := ovr w
  have GF3 := Lib.hid F3
  have hc0 := fun x => (F1 x).cell (p := ⟨t, 0, none⟩) (World.block_lt_of_cell? w _ c0) |>.trans c0
  have hc1 := fun x => (F1 x).cell (p := ⟨t, 0 + 1, none⟩) (World.block_lt_of_cell? w _ c1) |>.trans c1
  have hd0 := fun x => (F1 x).cell (p := ⟨g, i, none⟩) (World.block_lt_of_cell? w _ d0) |>.trans d0
  have hd1 := fun x => (F1 x).cell (p := ⟨g, j, none⟩) (World.block_lt_of_cell? w _ d1) |>.trans d1
  have GQ := Lib.hid (fun x => HL.out (F x) (F1 x))
  have GB := Lib.hid F1
  clear c0 c1 d0 d1 F1 F3 HL
  generalize ps.length = n at *
  go_enter Tryz.func176, Tryz.ntmps176
  go_wp2_with fail
  refine wp_region_cls F (by kernel_rfl) (by kernel_rfl) F2 ?_
  repeat (go_big_quiet_step (first | (go_at_call 171; with_reducible exact q_ovr GF3.out (GQ.out _))))
  refine wpQuiet_nil ?_
  intro _ hw'
  obtain ⟨x2, hw9⟩ := hw'
  subst hw9
  go_wp2_with fail
  go_ret
  exact ⟨rfl, HH.out.keep (GB.out x2), GB.out x2⟩
end Go.Proofs.YtmjlhmohglbecaaGreatDoor.Ea
/- Package expiry: turns: Swap, Push, Pop. Conditions: as they lie; bounds. -/
namespace Go.Proofs.YtmjlhmohglbecaaGreatDoor.Ea
open Go.ChangeShapes Go.WideShapes Go.ChangeAt Go.RowKit
set_option maxHeartbeats 4000000 in
set_option maxRecDepth 100000 in
theorem tswap_walk (w : World) (t g c n i j p q : Nat) (hi : i < n) (hj : j < n) (c1 : w.cell? ⟨t, 0 + 1, none⟩ = some (.slice (some ⟨g, 0, none⟩) n c)) (d0 : w.cell? ⟨g, i, none⟩ = some (num p)) (d1 : w.cell? ⟨g, j, none⟩ = some (num q)) (f : ∀ j, w.frozen? ⟨g, j, none⟩ = false) :
    Calls Tryz.prog 179 #[.pointer (some ⟨t, 0, none⟩), .int .i64 i, .int .i64 j] w fun e w' => e = .returned (.tuple #[]) ∧ w' = ((w.setCell ⟨g, i, none⟩ (num q)).setCell ⟨g, j, none⟩ (num p)).drew := by
  have bi : (i : Int) < (n : Int) := by omega
  have bj : (j : Int) < (n : Int) := by omega
  unfold num at *
  have s1 : (w.setCell ⟨g, i, none⟩ (.int .i64 q)).cell? ⟨g, j, none⟩ = some (.int .i64 q) := by
    by_cases e : i = j
    · rw [e]; exact World.cell?_setCell_same _ _ _ d1
    · exact (World.cell?_setCell_other _ _ _ _ (addr_ne (.inr e))).trans d1
  have f1 := f i
  have f2 := f j
  clear f
  go_enter Tryz.func179, Tryz.ntmps179
  go_wp2_with fail
  go_region
  all_goals (go_wp2_with fail; go_end0; exact ⟨rfl, rfl⟩)
theorem swp_mapN {l : List Nat} {i j : Nat} (hi : i < l.length) (hj : j < l.length) : (swp l i j).map num = ((l.map num).set i (num l[j])).set j (num l[i]) := by
  unfold swp
  rw [dif_pos ⟨hi, hj⟩, List.map_set, List.map_set]
/-- What only the row's block and the object's have turned in. -/
theorem TAt.moved {w0 w w' : World} {t : Nat} {vh vp vp' : Value} {l : List En} {ps ps' : List Nat} (h : TAt w0 t vh l w vp ps) (hb : Below w0.heap.size w0 w') (h0 : w'.cell? ⟨t, 0, none⟩ = some vh) (h1 : w'.cell? ⟨t, 0 + 1, none⟩ = some vp') (hf : ∀ j, w'.frozen? ⟨t, j, none⟩ = false) (hr : RowN w0.heap.size w' vp' ps') (hp : vp'.ownBlock ≠ some t) (hd : ∀ p ∈ ps', p < l.length) : TAt w0 t vh l w' vp' ps' :=
  ⟨hb, h.tb, h0, h1, hf, hr, hp, hd⟩
theorem tswap_calls {w0 w : World} {t : Nat} {vh vp : Value} {l : List En} {ps : List Nat} (h : TAt w0 t vh l w vp ps) (i j : Nat) (hi : i < ps.length) (hj : j < ps.length) :
    Calls Tryz.prog 179 #[.pointer (some ⟨t, 0, none⟩), .int .i64 i, .int .i64 j] w fun e w' => e = .returned (.tuple #[]) ∧ TAt w0 t vh l w' vp (swp ps i j) ∧ Fr (fun y => y = t ∨ vp.ownBlock = some y) w w' := by
  have hr := h.row
  obtain ⟨a, c, rfl, -, -, hat⟩ := h.row.form
  obtain ⟨g, rfl, d0, -, hB⟩ := hat i hi
  obtain ⟨g', e, d1, -, -⟩ := hat j hj
  cases e
  unfold RowN at hr
  have htg : t ≠ g := fun e => h.pt (by rw [e]; rfl)
  refine (tswap_walk w t g c ps.length i j _ _ hi hj h.c1 d0 d1 (fun j => hr.frozenAt j)).mono ?_
  rintro e w' ⟨rfl, hw⟩
  have f1 : Fr (fun y => y = g) w w' := by
    rw [hw]
    exact ((Fr.setCell (S := fun y => y = g) w ⟨g, i, none⟩ rfl _).trans (Fr.setCell (S := fun y => y = g) _ ⟨g, j, none⟩ rfl _)).trans (Fr.drew _)
  have hT := f1.block t h.lt htg
  refine ⟨rfl, h.moved (h.bel.trans (f1.below h.bel.size fun i hi e => by omega)) ((World.cell?_of_block (a := ⟨t, 0, none⟩) hT).trans h.c0) ((World.cell?_of_block (a := ⟨t, 1, none⟩) hT).trans h.c1) (fun j => (World.frozen?_of_block (a := ⟨t, j, none⟩) hT).trans (h.ft j)) ?_ h.pt fun p hp => h.bd p (swp_perm.mem_iff.1 hp), f1.mono fun i hi => .inr (congrArg some hi.symm)⟩
  have r1 := (hr.stored i (num ps[j])).1
  have r2 := (r1.stored j (num ps[i])).1
  unfold RowN
  rw [swp_len, swp_mapN hi hj, hw]
  exact row_block r2 fun _ _ => rfl
theorem iInt : (Tryz.prog.info? 3).map (fun i => (i.zero, i.size, i.bytes)) = some (some (.int .i64 0), 1, 8) := by kernel_rfl
/-- An append, as one step of a region that draws its order, by an equation on its run. -/
theorem step_app {ops : Array Oper} {o : Oper} {a : Act} {K : Act → World → Prop} {Q : Exit → Act → World → Prop} {E : Prop} {W w' : World} {v y v' : Value} {T : TypeId} (hgd : o.guard = none) (s x : Operand)
    (ho : o.op = .call { callee := .builtin .append, args := #[s, x], argTypes := #[T, T] }) (hs : a.eval s = v) (hx : a.eval x = y) (hrun : (Builtin.append_ #[T, T] o.type #[v, y]).run Tryz.prog W = .ok v' w')
    (h : K (a.put o.dst v') w') : if Region.wanted o (yielded ops a.tmps) = true then Oper.wp Tryz.prog o a W K Q else E := by
  have hw : Region.wanted o (yielded ops a.tmps) = true := by simp [Region.wanted, hgd]
  rw [if_pos hw]
  unfold Oper.wp
  simp [execOp, ho, resolve, invoke, builtin, hs, hx, hrun, Result.andThen]
  exact h
set_option maxHeartbeats 4000000 in
set_option maxRecDepth 100000 in
theorem tpush_calls {w0 w : World} {t : Nat} {vh vp : Value} {l : List En} {ps : List Nat} (h : TAt w0 t vh l w vp ps) (p : Nat) (hl : ps.length ≤ 1000000000) (hp : p < l.length) :
    Calls Tryz.prog 178 #[.pointer (some ⟨t, 0, none⟩), .iface 3 (num p)] w fun e w' => e = .returned (.tuple #[]) ∧ ∃ vp', TAt w0 t vh l w' vp' (ps ++ [p]) ∧ Fr (fun y => y = t ∨ vp.ownBlock = some y) w w' ∧ (vp'.ownBlock = vp.ownBlock ∨ ∃ g, vp'.ownBlock = some g ∧ w.heap.size ≤ g) := by
  have hta := taI (num p)
  have c1 := h.c1
  have ft := h.ft 1
  have hsz := h.bel.size
  obtain ⟨i0, hi, hz0, hz1, hz2⟩ := info_parts iInt
  have hO2 : RowN w0.heap.size (w.alloc (.cells #[num p] 3)).drew vp ps := row_block (row_block h.row fun g hg => (bbox (.cells #[num p] 3)).block g (row_lt h.row hg)) fun _ _ => rfl
  obtain ⟨v', w', hrun, r1, r2, -, r3⟩ := run_append_own_at (P := Tryz.prog) (w.alloc (.cells #[num p] 3)).drew w0.heap.size 183 183 3 i0 _ 1 8 Tryz.underlying183 hi hz0 hz1 hz2 rfl (by decide) vp ps.length (ps.map num) hO2 ⟨w.heap.size, 0, none⟩ 1 1 [num p] rfl
    (fun j u hj => by
      rw [Addr.add_lit, Nat.zero_add]
      show (w.alloc _).cell? _ = _
      rw [World.cell?_alloc_new]
      simpa using hj)
    (fun u hu => by
      simp only [List.mem_cons, List.not_mem_nil, or_false] at hu
      subst hu; rfl) (by unfold maxLen; omega) (by omega) (by show w0.heap.size ≤ (w.alloc _).heap.size; simp; omega)
  have HN : Hid (RowN w0.heap.size w' v' (ps ++ [p])) := Lib.hid (by
    unfold RowN
    rw [List.map_append, List.length_append]; exact r1)
  obtain ⟨a', n', c', hv'⟩ : ∃ a n c, v' = .slice a n c := by
    obtain ⟨a, c, e, -⟩ := HN.out.form
    exact ⟨_, _, _, e⟩
  obtain ⟨a, c, hvp, -, -, -⟩ := h.row.form
  subst hv' hvp
  have hsz1 : (w.alloc (.cells #[num p] 3)).drew.heap.size = w.heap.size + 1 := by show (w.alloc _).heap.size = _; simp
  have hT : w'.heap[t]? = w.heap[t]? := (r2.block t (by rw [hsz1]; have := h.lt; omega) (fun e => h.pt e.symm)).trans ((bbox (.cells #[num p] 3)).block t h.lt)
  have t1 : w'.cell? ⟨t, 0 + 1, none⟩ = some (.slice a ps.length c) := (World.cell?_of_block (a := ⟨t, 1, none⟩) hT).trans c1
  have tf : w'.frozen? ⟨t, 0 + 1, none⟩ = false := (World.frozen?_of_block (a := ⟨t, 1, none⟩) hT).trans ft
  have t2 : (w.alloc (.cells #[num p] 3)).cell? ⟨t, 0 + 1, none⟩ = some (.slice a ps.length c) := ((bbox (.cells #[num p] 3)).cell (p := ⟨t, 0 + 1, none⟩) h.lt).trans c1
  have hF3 : Fr (fun y => y = t) w' (w'.setCell ⟨t, 0 + 1, none⟩ (.slice a' n' c')) := Fr.setCell (S := fun y => y = t) w' ⟨t, 0 + 1, none⟩ rfl _
  have hvt : (Value.slice a' n' c').ownBlock ≠ some t := by
    rcases r3 with e1 | e1
    · rw [e1]; exact h.pt
    · rw [e1, hsz1]
      have := h.lt
      exact fun e2 => by have e3 : w.heap.size + 1 = t := Option.some.inj e2; omega
  have h1 : Fr (fun y => (Value.slice a ps.length c).ownBlock = some y) w w' := ((Fr.of_below (bbox (.cells #[num p] 3))).trans (Fr.drew _)).trans (Fr.grown r2 fun i hi => hi)
  have HX : Hid (Fr (fun y => y = t ∨ (Value.slice a ps.length c).ownBlock = some y) w (w'.setCell ⟨t, 0 + 1, none⟩ (.slice a' n' c')) ∧ ((Value.slice a' n' c').ownBlock = (Value.slice a ps.length c).ownBlock ∨ ∃ g, (Value.slice a' n' c').ownBlock = some g ∧ w.heap.size ≤ g)) := Lib.hid ⟨(h1.mono fun i hi => .inr hi).trans (hF3.mono fun i hi => .inl hi), r3.imp id fun e => ⟨_, e, by rw [hsz1]; omega⟩⟩
  have hw' : Below w0.heap.size w0 w' := by
    refine h.bel.trans (h1.below hsz fun i hi e => ?_)
    have := (h.row.lt i e).1
    omega
  have HZ : Hid (TAt w0 t vh l (w'.setCell ⟨t, 0 + 1, none⟩ (.slice a' n' c')) (.slice a' n' c') (ps ++ [p])) := Lib.hid (h.moved (hw'.trans (hF3.below hw'.size fun i hi e => by have := h.tb; omega))
    ((World.cell?_setCell_other _ _ _ _ (addr_ne (.inr (by decide)))).trans ((World.cell?_of_block (a := ⟨t, 0, none⟩) hT).trans h.c0)) (World.cell?_setCell_same _ _ _ t1)
    (fun j => by rw [World.frozen?_setCell]; exact (World.frozen?_of_block (a := ⟨t, j, none⟩) hT).trans (h.ft j))
    (row_block HN.out fun g hg => hF3.block g (row_lt HN.out hg) (fun e2 => hvt (by rw [hg, e2]))) hvt (fun q hq => by
      rcases List.mem_append.1 hq with e | e
      · exact h.bd q e
      · have : q = p := by simpa using e
        rw [this]; exact hp))
  clear h r1 r2 r3 hO2 hi hz0 hz1 hz2 hT hF3 hvt hw' HN hsz1 h1
  unfold num at *
  go_enter Tryz.func178, Tryz.ntmps178
  go_wp2_with fail
  go_region_law (
    refine step_app (o := ⟨some 12, _, _, _, _, _⟩) rfl (.tmp 8) (.tmp 11) rfl ?_ ?_ hrun ?_
    simp [Act.eval]
    simp [Act.eval])
  all_goals (go_wp2_with fail; go_end0; exact ⟨rfl, _, HZ.out, HX.out⟩)
set_option maxHeartbeats 4000000 in
set_option maxRecDepth 100000 in
theorem tpop_calls {w0 w : World} {t : Nat} {vh vp : Value} {l : List En} {ps : List Nat} {p : Nat} (h : TAt w0 t vh l w vp (ps ++ [p])) :
    Calls Tryz.prog 177 #[.pointer (some ⟨t, 0, none⟩)] w fun e w' => e = .returned (.iface 3 (num p)) ∧ ∃ vp', TAt w0 t vh l w' vp' ps ∧ Fr (fun y => y = t) w w' ∧ vp'.ownBlock = vp.ownBlock := by
  have hlen : (ps ++ [p]).length = ps.length + 1 := by simp
  have hr := h.row
  unfold RowN at hr
  obtain ⟨a, c, rfl, hc1, hc2, hat⟩ := h.row.form
  obtain ⟨g, rfl, d0, fg, hB⟩ := hat ps.length (by omega)
  have e1 : (ps ++ [p])[ps.length]'(by omega) = p := by simp
  rw [e1] at d0
  have c1 := h.c1
  have ft := h.ft 1
  have hgt : t ≠ g := fun e2 => h.pt (by rw [e2]; rfl)
  rw [hlen] at c1 hr hc1
  have hl : ps.length + 1 ≤ 9223372036854775807 := by omega
  have hF : Fr (fun y => y = t) w (w.setCell ⟨t, 0 + 1, none⟩ (.slice (some ⟨g, 0, none⟩) ps.length c)) := Fr.setCell (S := fun y => y = t) w ⟨t, 0 + 1, none⟩ rfl _
  have HZ : Hid (TAt w0 t vh l (w.setCell ⟨t, 0 + 1, none⟩ (.slice (some ⟨g, 0, none⟩) ps.length c)) (.slice (some ⟨g, 0, none⟩) ps.length c) ps) := Lib.hid (h.moved (h.bel.trans (hF.below h.bel.size fun i hi e => by have := h.tb; omega))
    ((World.cell?_setCell_other _ _ _ _ (addr_ne (.inr (by decide)))).trans h.c0) (World.cell?_setCell_same _ _ _ c1)
    (fun j => by rw [World.frozen?_setCell]; exact h.ft j) (by
      have r1 := row_cut hr (Nat.le_succ ps.length)
      have e2 : ((ps ++ [p]).map num).take (ps.length * 1) = ps.map num := by
        rw [Nat.mul_one, List.map_append]
        have : ps.length = (ps.map num).length := by simp
        rw [this]; exact List.take_left
      rw [e2] at r1
      exact row_block r1 fun g' hg' => hF.block g' (row_lt r1 hg') (fun e3 => by
        have e4 : g = g' := Option.some.inj hg'
        exact hgt (by rw [e4, e3]))) h.pt fun q hq => h.bd q (List.mem_append_left _ hq))
  have b1 : (((ps.length + 1 : Nat) : Int) - 1) = (ps.length : Int) := by omega
  have b2 : (ps.length : Int) < ((ps.length + 1 : Nat) : Int) := by omega
  have b3 : ¬ ((c : Int) < (ps.length : Int)) := by omega
  have b4 : (ps.length : Int) ≤ (c : Int) := by omega
  have b5 : ps.length ≤ c := by omega
  have HX := Lib.hid hF
  clear e1 h hr hat hF hlen
  unfold num at *
  go_enter Tryz.func177, Tryz.ntmps177
  go_wp2_with fail
  go_ret
  exact ⟨rfl, _, HZ.out, HX.out, rfl⟩
end Go.Proofs.YtmjlhmohglbecaaGreatDoor.Ea
