/- Maps from texts as things: what a map says, its five operations, and a range over it. Of no program, no condition. -/
import Derived.Test.YtnmncjeplfkdpaaSp3
import Derived.Maps.OwnSet
import Derived.Maps.RangeWalk
import Derived.Maps.StringElems
namespace Go.Proofs.Ytnmncjeplfkdpaa.Sp
set_option linter.unusedVariables false
set_option linter.unusedSimpArgs false
open Go.ChangeShapes Go.WideShapes Go.ChangeAt Go.RowKit Go.Maps Go.WideMaps
def klit (k : ByteArray) : Lit := .string k.data.toList
theorem klit_ne {a b : ByteArray} (h : a ≠ b) : klit a ≠ klit b := fun e => h (by
  unfold klit at e
  injection e with e
  cases a; cases b
  simpa using e)
theorem klit_key (k : ByteArray) : WideAt.IsKeyLit (klit k) := True.intro
/-- The elements of a map: how a value lies and how it is read. -/
structure El (P : Program) (e : TypeId) (α : Type) where
  R : Value → Option (DataW Unit × List MemPlace)
  enc : α → Value
  lit : α → DataW Unit
  ok : α → Prop
  reads : ∀ x, ok x → R (enc x) = some (lit x, [])
  inv : ∀ v z, R v = some z → ∃ x, ok x ∧ v = enc x ∧ z.1 = lit x
  inj : ∀ x y, lit x = lit y → x = y
  zero : α
  zok : ok zero
  zrun : ∀ w, (zeroValue e).run P w = .ok (enc zero) w
/-- Elements of a kind of whole numbers. -/
def intEl (P : Program) (e : TypeId) (q : IntKind) (he : P.underlying e = some (.int q)) (h0 : (Lit.int q 0).wf = true) (hz : ∀ w, (zeroValue e).run P w = .ok (.int q 0) w) : El P e Int :=
  ⟨plainElem P e, fun n => .int q n, fun n => .lit (.int q n), fun n => (Lit.int q n).wf = true, fun x hx => plainElem_int he hx,
   fun v z h => by
     obtain ⟨c, rfl, hc, hw⟩ := plainElem_int_inv (H := Unit) he h
     exact ⟨c, hw, rfl, by rw [hc]⟩,
   fun x y h => by injection h with h; injection h, 0, h0, hz⟩
section
variable {P : Program} {kt e T : TypeId} {α : Type} {L : El P e α}
/-- What a map says. -/
structure MI (L : El P e α) (g : ByteArray → Option α) (D : DataW Unit) (n : Nat) : Prop where
  ti : Tidy D
  hs : ∀ k, Maps.has D (klit k) = (g k).isSome
  av : ∀ k zd, D.atKey (klit k) zd = ((g k).map L.lit).getD zd
  ok : ∀ k x, g k = some x → L.ok x
  sz : Maps.size D = n
def setG (g : ByteArray → Option α) (k : ByteArray) (v : Option α) : ByteArray → Option α := fun x => if x = k then v else g x
theorem setG_same (g : ByteArray → Option α) (k : ByteArray) (v : Option α) : setG g k v k = v := if_pos rfl
theorem setG_ne {g : ByteArray → Option α} {k x : ByteArray} {v : Option α} (h : x ≠ k) : setG g k v x = g x := if_neg h
theorem MI.new : MI L (fun _ => none) (.map []) 0 := ⟨tidy_empty, fun _ => rfl, fun _ _ => rfl, fun _ _ h => (by cases h), rfl⟩
theorem MI.put {g : ByteArray → Option α} {D : DataW Unit} {n : Nat} (h : MI L g D n) (k : ByteArray) (x : α) (hx : L.ok x) : MI L (setG g k (some x)) (D.put (klit k) (L.lit x)) (n + if (g k).isSome = true then 0 else 1) := by
  refine ⟨h.ti.put (klit_key k) _, fun k' => ?_, fun k' zd => ?_, fun k' y hy => ?_, ?_⟩
  · unfold setG
    by_cases e : k' = k
    · subst e; rw [if_pos rfl, has_put_same h.ti.isMap (klit_key _)]; rfl
    · rw [if_neg e, has_put_other (klit_ne e)]; exact h.hs k'
  · unfold setG
    by_cases e : k' = k
    · subst e; rw [if_pos rfl, atKey_put_same h.ti.isMap (klit_key _)]; rfl
    · rw [if_neg e, atKey_put_other (klit_ne e)]; exact h.av k' zd
  · unfold setG at hy
    by_cases e : k' = k
    · rw [if_pos e] at hy; injection hy with hy; subst hy; exact hx
    · rw [if_neg e] at hy; exact h.ok k' y hy
  · rw [size_put h.ti, h.hs, h.sz]
    cases (g k).isSome <;> rfl
theorem MI.del {g : ByteArray → Option α} {D : DataW Unit} {n : Nat} (h : MI L g D n) (k : ByteArray) : MI L (setG g k none) (D.del (klit k)) (n - if (g k).isSome = true then 1 else 0) := by
  refine ⟨h.ti.del _, fun k' => ?_, fun k' zd => ?_, fun k' y hy => ?_, ?_⟩
  · unfold setG
    by_cases e : k' = k
    · subst e; rw [if_pos rfl, has_del_same]; rfl
    · rw [if_neg e, has_del_other (klit_ne e)]; exact h.hs k'
  · unfold setG
    by_cases e : k' = k
    · subst e; rw [if_pos rfl, atKey_del_same]; rfl
    · rw [if_neg e, atKey_del_other (klit_ne e)]; exact h.av k' zd
  · unfold setG at hy
    by_cases e : k' = k
    · rw [if_pos e] at hy; cases hy
    · rw [if_neg e] at hy; exact h.ok k' y hy
  · have e := size_del (k := klit k) h.ti
    rw [h.hs, h.sz] at e
    omega
theorem map_same {H : Type} {k : TypeId} {R : Value → Option (DataW H × List MemPlace)} {w w' : World} {b n : Nat} {D : DataW H} (h : w.ownsMap P k R b n D) (e : w'.heap[b]? = w.heap[b]?) : w'.ownsMap P k R b n D := by
  obtain ⟨es, clock, hb, F, hs, hD⟩ := h
  exact ⟨es, clock, e.trans hb, F, hs, hD⟩
theorem rng_same {H : Type} {k : TypeId} {R : Value → Option (DataW H × List MemPlace)} {w w' : World} {b r n cnt : Nat} {left : Lit → Bool} {D : DataW H} (h : w.ranges P k R b r n D left cnt) (e : w'.heap[b]? = w.heap[b]?) (er : w'.heap[r]? = w.heap[r]?) : w'.ranges P k R b r n D left cnt := by
  obtain ⟨es, clock, since, seen, c0, hb, F, hs, hD, hr, rest⟩ := h
  exact ⟨es, clock, since, seen, c0, e.trans hb, F, hs, hD, er.trans hr, rest⟩
theorem fr_grown {w w' : World} {M : Nat} (h : w.grownBy w' (some M)) {S : Nat → Prop} (hS : S M) : Fr S w w' := ⟨h.os, h.tape, h.output, h.size, fun i hi hn => h.block i hi fun e => hn (by injection e with e; exact e ▸ hS)⟩
theorem fr_grown0 {w w' : World} (h : w.grownBy w' none) {S : Nat → Prop} : Fr S w w' := ⟨h.os, h.tape, h.output, h.size, fun i hi _ => h.block i hi (by simp)⟩
/-- A map that says g, of n keys; c: how often it was put to. -/
def mapT (kt : TypeId) (L : El P e α) (M n c : Nat) (g : ByteArray → Option α) : Th :=
  ⟨fun O _ w => (∀ x, O x ↔ x = M) ∧ ∃ D, w.ownsMap P kt L.R M c D ∧ MI L g D n,
   fun {O R w} ⟨ho, D, h, _⟩ x hx => by rw [(ho x).1 hx]; exact h.lt,
   fun {O R R' w w'} ⟨ho, D, h, hM⟩ _ _ _ hb => ⟨ho, D, map_same h (hb M (.inl ((ho M).2 rfl))), hM⟩⟩
/-- A range over a map under way: cnt keys are still to come. -/
def rngT (kt : TypeId) (L : El P e α) (M r n c : Nat) (g : ByteArray → Option α) (cnt : Nat) : Th :=
  ⟨fun O _ w => (∀ x, O x ↔ x = M ∨ x = r) ∧ ∃ D left, w.ranges P kt L.R M r c D left cnt ∧ MI L g D n ∧ ∀ kl, left kl = true → Maps.has D kl = true,
   fun {O R w} ⟨ho, D, left, h, _⟩ x hx => by rcases (ho x).1 hx with rfl | rfl; exact h.owns.lt; exact h.lt,
   fun {O R R' w w'} ⟨ho, D, left, h, hM⟩ _ _ _ hb => ⟨ho, D, left, rng_same h (hb M (.inl ((ho M).2 (.inl rfl)))) (hb r (.inl ((ho r).2 (.inr rfl)))), hM⟩⟩
variable {o w w' wb : World} {l : List Th} {M n c r cnt : Nat} {g : ByteArray → Option α}
theorem Hp.mapNew (h : Hp o w l) (kt : TypeId) (L : El P e α) : Hp o (w.alloc (.map #[] 0)) (mapT kt L w.heap.size 0 0 (fun _ => none) :: l) := by
  have hs : (w.alloc (.map #[] 0)).heap.size = w.heap.size + 1 := by simp
  refine h.add (bbox _) (ts := [mapT kt L w.heap.size 0 0 (fun _ => none)]) fun {R} hR => ⟨fun x => x = w.heap.size, R, ⟨_, fun _ => False, ⟨fun x => Iff.rfl, .map [], World.ownsMap_made w P kt L.R, MI.new⟩, fun _ h => h, fun _ _ h => h, fun x => by simp⟩, fun x hx => ⟨by omega, fun hr => by have := hR x hr; omega⟩, fun _ h => h, fun x hx => ⟨.inl hx, by have := hR x hx; omega⟩⟩
theorem Hp.mapLook (h : Hp o w (mapT kt L M n c g :: l)) (hk0 : P.underlying kt = some .string) (hT : P.underlying T = some (.map kt e)) (k : ByteArray) (hk : k.size ≤ maxLen) :
    (Instr.lookup T (.map (some M)) (.string k) false).run P w = .ok (L.enc ((g k).getD L.zero)) w :=
  h.say fun {A R} hp _ _ => by
    obtain ⟨-, D, hm, hM⟩ := hp
    obtain ⟨v, ps, hrun, hv⟩ := hm.lookup (t := T) (e := e) (string_keyed hk0) hT (L.zrun _) (L.reads _ L.zok) (key := .string k) (keyOf_string_mk hk0 hk)
    obtain ⟨x, -, rfl, hx⟩ := L.inv _ _ hv
    have hx : D.atKey (klit k) (L.lit L.zero) = L.lit x := hx
    rw [hM.av] at hx
    have : (g k).getD L.zero = x := by
      cases hg : g k with
      | none => rw [hg] at hx; exact L.inj _ _ hx
      | some y => rw [hg] at hx; exact L.inj _ _ hx
    rw [this]
    exact hrun
theorem Hp.mapLookOk (h : Hp o w (mapT kt L M n c g :: l)) (hk0 : P.underlying kt = some .string) (hT : P.underlying T = some (.map kt e)) (k : ByteArray) (hk : k.size ≤ maxLen) :
    (Instr.lookup T (.map (some M)) (.string k) true).run P w = .ok (.tuple #[L.enc ((g k).getD L.zero), .bool (g k).isSome]) w :=
  h.say fun {A R} hp _ _ => by
    obtain ⟨-, D, hm, hM⟩ := hp
    obtain ⟨v, ps, hrun, hv⟩ := hm.look_ok (t := T) (e := e) (string_keyed hk0) hT (L.zrun _) (L.reads _ L.zok) (key := .string k) (keyOf_string_mk hk0 hk)
    obtain ⟨x, -, rfl, hx⟩ := L.inv _ _ hv
    have hx : D.atKey (klit k) (L.lit L.zero) = L.lit x := hx
    rw [hM.av] at hx
    have : (g k).getD L.zero = x := by
      cases hg : g k with
      | none => rw [hg] at hx; exact L.inj _ _ hx
      | some y => rw [hg] at hx; exact L.inj _ _ hx
    rw [this, ← hM.hs]
    exact hrun
theorem Hp.mapLen (h : Hp o w (mapT kt L M n c g :: l)) (hT : P.underlying T = some (.map kt e)) (ty : TypeId) : (Builtin.len_ #[T] ty #[.map (some M)]).run P w = .ok (.int .i64 n) w :=
  h.say fun {A R} hp _ _ => by
    obtain ⟨-, D, hm, hM⟩ := hp
    rw [← hM.sz]
    exact hm.len hT ty
theorem Hp.mapTurn {D D' : DataW Unit} {n' c' : Nat} {g' : ByteArray → Option α} (h : Hp o w (mapT kt L M n c g :: l)) (hw : w'.ownsMap P kt L.R M c' D') (hM : MI L g' D' n') (hg : w.grownBy w' (some M)) : Hp o w' (mapT kt L M n' c' g' :: l) :=
  (h.moved (Below.refl _ _) (ts := [mapT kt L M n' c' g']) fun {A R} k hA hR hAR => mvd1 (A' := A) ⟨k.1, D', hw, hM⟩ (fr_grown hg ((k.1 M).2 rfl)) hR hAR fun x hx => .inl hx).1
section
variable {ops : Array Oper} {rest : List Oper} {oo : Oper} {a : Act} {Q : Exit → Act → World → Prop}
theorem Hp.mapPut (h : Hp o w (mapT kt L M n c g :: l)) (hg : oo.guard = none) (m x v : Operand) (T : TypeId) (hop : oo.op = Op.mapUpdate T m x v) (hk0 : P.underlying kt = some .string) (hT : P.underlying T = some (.map kt e)) (hm : a.eval m = .map (some M)) (k : ByteArray) (hx : a.eval x = .string k) (hk : k.size ≤ maxLen) (z : α) (hv : a.eval v = L.enc z) (hz : L.ok z) (hc : c < maxLen) (n2 : Nat) (hn2 : (n + if (g k).isSome = true then 0 else 1) = n2)
    (K : ∀ w', Hp o w' (mapT kt L M n2 (c + 1) (setG g k (some z)) :: l) → wpList P ops Q rest (a.put oo.dst undef) w') : wpList P ops Q (oo :: rest) a w := by
  subst hn2
  have h' := h
  obtain ⟨D, hm', hM⟩ : ∃ D, w.ownsMap P kt L.R M c D ∧ MI L g D n := h.say fun {A R} hp _ _ => hp.2
  refine wpList_mapUpdate_in w hg m x v T hop kt e (string_keyed hk0) hT L.R M c D hm hm' hc _ _ _ hx hv (keyOf_string_mk hk0 hk) _ [] (L.reads z hz) ?_
  intro w' hw' ht
  exact K w' (h'.mapTurn (D := D) hw' (hM.put k z hz) ht.grown)
theorem Hp.mapDel (h : Hp o w (mapT kt L M n c g :: l)) (hg : oo.guard = none) (m x : Operand) (T kt' : TypeId) (hop : oo.op = Op.call { callee := Callee.builtin Builtin.delete, args := #[m, x], argTypes := #[T, kt'] }) (hkt : kt' = kt) (hk0 : P.underlying kt = some .string) (hT : P.underlying T = some (.map kt e)) (hm : a.eval m = .map (some M)) (k : ByteArray) (hx : a.eval x = .string k) (hk : k.size ≤ maxLen) (n2 : Nat) (hn2 : (n - if (g k).isSome = true then 1 else 0) = n2)
    (K : ∀ w', Hp o w' (mapT kt L M n2 c (setG g k none) :: l) → wpList P ops Q rest (a.put oo.dst (.tuple #[])) w') : wpList P ops Q (oo :: rest) a w := by
  subst hkt
  subst hn2
  have h' := h
  obtain ⟨D, hm', hM⟩ : ∃ D, w.ownsMap P kt' L.R M c D ∧ MI L g D n := h.say fun {A R} hp _ _ => hp.2
  refine wpList_delete_own w hg m x T kt' hop e (string_keyed hk0) hT L.R M c D hm hm' _ _ hx (keyOf_string_mk hk0 hk) ?_
  intro w' hw' ht
  exact K w' (h'.mapTurn (D := D) hw' (hM.del k) ht.grown)
theorem Hp.mapLenAt (h : Hp o w (mapT kt L M n c g :: l)) (hg : oo.guard = none) (m : Operand) (T : TypeId) (hop : oo.op = Op.call { callee := Callee.builtin Builtin.len, args := #[m], argTypes := #[T] }) (hT : P.underlying T = some (.map kt e)) (hm : a.eval m = .map (some M))
    (K : wpList P ops Q rest (a.put oo.dst (.int .i64 n)) w) : wpList P ops Q (oo :: rest) a w := by
  obtain ⟨D, hm', hM⟩ : ∃ D, w.ownsMap P kt L.R M c D ∧ MI L g D n := h.say fun {A R} hp _ _ => hp.2
  refine wpList_len_own w hg m T hop kt e hT L.R M c D hm hm' ?_
  rw [hM.sz]
  exact K
/-- A range begins. -/
theorem Hp.mapRange (h : Hp o w (mapT kt L M n c g :: l)) (hg : oo.guard = none) (m : Operand) (T : TypeId) (hop : oo.op = Op.range T m) (hk0 : P.underlying kt = some .string) (hT : P.underlying T = some (.map kt e)) (hm : a.eval m = .map (some M))
    (K : ∀ w', Hp o w' (rngT kt L M w.heap.size n c g n :: l) → w'.heap.size = w.heap.size + 1 → wpList P ops Q rest (a.put oo.dst (.pointer (some ⟨w.heap.size, 0, none⟩))) w') : wpList P ops Q (oo :: rest) a w := by
  have h' := h
  obtain ⟨D, hm', hM⟩ : ∃ D, w.ownsMap P kt L.R M c D ∧ MI L g D n := h.say fun {A R} hp _ _ => hp.2
  refine wpList_range_own w hg m T hop kt e (string_keyed hk0) hT L.R M c D hm hm' ?_
  intro w' hr hgr hs
  rw [hM.sz] at hr
  refine K w' (h'.moved (Below.refl _ _) (ts := [rngT kt L M w.heap.size n c g n]) fun {A R} k hA hR hAR => ?_).1 hs
  exact mvd1 (A' := fun x => A x ∨ x = w.heap.size) ⟨fun x => by show A x ∨ _ ↔ _; rw [k.1 x], D, _, hr, hM, fun _ h => h⟩ (fr_grown0 hgr) hR hAR fun x hx => hx.imp id fun e => by omega
/-- The range's step. -/
theorem Hp.rngNext (h : Hp o w (rngT kt L M r n c g cnt :: l)) (hg : oo.guard = none) (it : Operand) (hop : oo.op = Op.next it false) (hk0 : P.underlying kt = some .string) (hit : a.eval it = .pointer (some ⟨r, 0, none⟩))
    (hDone : wpList P ops Q rest (a.put oo.dst (.tuple #[.bool false])) w)
    (hMore : ∀ (k : ByteArray) (x : α) (w' : World) (cnt' : Nat), g k = some x → k.size ≤ maxLen → cnt' < cnt → Hp o w' (rngT kt L M r n c g cnt' :: l) → (Instr.entry (.pointer (some ⟨r, 0, none⟩))).run P w' = .ok (.tuple #[.string k, L.enc x]) w' → wpList P ops Q rest (a.put oo.dst (.tuple #[.bool true, .string k, L.enc x])) w') : wpList P ops Q (oo :: rest) a w := by
  have h' := h
  obtain ⟨D, left, hr, hM, hl⟩ : ∃ D left, w.ranges P kt L.R M r c D left cnt ∧ MI L g D n ∧ ∀ kl, left kl = true → Maps.has D kl = true := h.say fun {A R} hp _ _ => hp.2
  refine wpList_next_ranges w hg it hop kt (string_keyed hk0) L.R Value.string L.enc (fun key kl hk => by
      cases key <;> simp [keyOf, hk0, mapKey] at hk
      exact ⟨_, rfl⟩) (fun v y hv => by obtain ⟨x, -, e, -⟩ := L.inv v y hv; exact ⟨x, e⟩) M r c D left cnt hit hr (fun _ _ => hDone) (fun k x kl y w' cnt' hk hlk hv hat hrg hlt hgr hsz hen => ?_)
  obtain ⟨x', hok, ex, hy⟩ := L.inv _ _ hv
  have hks : k.size ≤ maxLen ∧ klit k = kl := by
    simp [keyOf, hk0, mapKey] at hk
    exact hk
  obtain ⟨hks, rfl⟩ := hks
  have hgk : ∃ z, g k = some z := by
    have := hl _ hlk
    rw [hM.hs] at this
    exact Option.isSome_iff_exists.1 this
  obtain ⟨z, hz⟩ := hgk
  have e2 := hat (L.lit z)
  rw [hM.av, hz, hy] at e2
  have e3 : z = x' := L.inj _ _ e2
  subst e3
  rw [ex] at hen
  have hh := hMore k z w' cnt' hz hks hlt (h'.moved (Below.refl _ _) (ts := [rngT kt L M r n c g cnt']) fun {A R} hp hA hR hAR => mvd1 (A' := A) ⟨hp.1, D, _, hrg, hM, fun kl hkl => hl kl (by rw [Bool.and_eq_true] at hkl; exact hkl.1)⟩ (fr_grown hgr ((hp.1 r).2 (.inr rfl))) hR hAR fun x hx => .inl hx).1 hen
  rw [← ex] at hh
  exact hh
theorem Hp.rngLeft (h : Hp o w (rngT kt L M r n c g cnt :: l)) : w.rangeLeft M r = cnt := h.say fun {A R} hp _ _ => by
  obtain ⟨-, D, left, hr, -⟩ := hp
  exact hr.left_eq
/-- The range is over: the map alone. -/
theorem Hp.rngEnd (h : Hp o w (rngT kt L M r n c g cnt :: l)) : Hp o w (mapT kt L M n c g :: l) :=
  (h.moved (Below.refl _ _) (ts := [mapT kt L M n c g]) fun {A R} hp hA hR hAR => by
    obtain ⟨ho, D, left, hr, hM, -⟩ := hp
    exact mvd1 (A' := fun x => x = M) ⟨fun x => Iff.rfl, D, hr.owns, hM⟩ (Fr.refl _) hR hAR fun x hx => .inl ((ho x).2 (.inl hx))).1
theorem Hp.rngLook (h : Hp o w (rngT kt L M r n c g cnt :: l)) (hk0 : P.underlying kt = some .string) (hT : P.underlying T = some (.map kt e)) (k : ByteArray) (hk : k.size ≤ maxLen) :
    (Instr.lookup T (.map (some M)) (.string k) false).run P w = .ok (L.enc ((g k).getD L.zero)) w := h.rngEnd.mapLook hk0 hT k hk
end
end
end Go.Proofs.Ytnmncjeplfkdpaa.Sp
