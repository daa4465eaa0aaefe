/- A range over a map, of which is known which keys are still to come. Of no program, no condition. -/
import Derived.Test.YtkpcobaklbfpcaaSp8
namespace Go.Proofs.Ytkpcobaklbfpcaa.Sp
set_option linter.unusedVariables false
set_option linter.unusedSimpArgs false
open Go.ChangeShapes Go.WideShapes Go.ChangeAt Go.RowKit Go.Maps Go.WideMaps
theorem klit_inj {a b : ByteArray} (h : klit a = klit b) : a = b := Classical.byContradiction fun hn => klit_ne hn h
theorem klit_same (z k : ByteArray) : (klit z).sameKey (klit k) = decide (z = k) := by
  by_cases h : z = k
  · subst h
    rw [decide_eq_true rfl]
    exact WideAt.sameKey_self (klit_key z)
  · rw [decide_eq_false h]
    cases e : (klit z).sameKey (klit k) with
    | false => rfl
    | true => exact absurd (klit_inj ((WideAt.sameKey_iff (klit_key k)).1 e)) h
section
variable {P : Program} {kt e T : TypeId} {α : Type} {L : El P e α}
/-- A range over a map under way: lf says which keys are still to come. -/
def rngL (kt : TypeId) (L : El P e α) (M r n c : Nat) (g : ByteArray → Option α) (lf : ByteArray → Bool) (cnt : Nat) : Th :=
  ⟨fun O _ w => (∀ x, O x ↔ x = M ∨ x = r) ∧ ∃ D left, w.ranges P kt L.R M r c D left cnt ∧ MI L g D n ∧ (∀ kl, left kl = true → Maps.has D kl = true) ∧ ∀ k, left (klit k) = lf k,
   fun {O R w} ⟨ho, D, left, h, _⟩ x hx => by rcases (ho x).1 hx with rfl | rfl; exact h.owns.lt; exact h.lt,
   fun {O R R' w w'} ⟨ho, D, left, h, hM⟩ _ _ _ hb => ⟨ho, D, left, rng_same h (hb M (.inl ((ho M).2 (.inl rfl)))) (hb r (.inl ((ho r).2 (.inr rfl)))), hM⟩⟩
variable {o w w' wb : World} {l : List Th} {M n c r cnt : Nat} {g : ByteArray → Option α} {lf : ByteArray → Bool}
variable {ops : Array Oper} {rest : List Oper} {oo : Oper} {a : Act} {Q : Exit → Act → World → Prop}
theorem Hp.mapRangeL (h : Hp o w (mapT kt L M n c g :: l)) (hg : oo.guard = none) (m : Operand) (T : TypeId) (hop : oo.op = Op.range T m) (hk0 : P.underlying kt = some .string) (hT : P.underlying T = some (.map kt e)) (hm : a.eval m = .map (some M))
    (K : ∀ w', Hp o w' (rngL kt L M w.heap.size n c g (fun k => (g k).isSome) n :: l) → w'.heap.size = w.heap.size + 1 → wpList P ops Q rest (a.put oo.dst (.pointer (some ⟨w.heap.size, 0, none⟩))) w') : wpList P ops Q (oo :: rest) a w := by
  have h' := h
  obtain ⟨D, hm', hM⟩ : ∃ D, w.ownsMap P kt L.R M c D ∧ MI L g D n := h.say fun {A R} hp _ _ => hp.2
  refine wpList_range_own w hg m T hop kt e (string_keyed hk0) hT L.R M c D hm hm' ?_
  intro w' hr hgr hs
  rw [hM.sz] at hr
  refine K w' (h'.moved (Below.refl _ _) (ts := [rngL kt L M w.heap.size n c g (fun k => (g k).isSome) n]) fun {A R} k hA hR hAR => ?_).1 hs
  exact mvd1 (A' := fun x => A x ∨ x = w.heap.size) ⟨fun x => by show A x ∨ _ ↔ _; rw [k.1 x], D, _, hr, hM, fun _ h => h, hM.hs⟩ (fr_grown0 hgr) hR hAR fun x hx => hx.imp id fun e => by omega
theorem Hp.rngNextL (h : Hp o w (rngL kt L M r n c g lf cnt :: l)) (hg : oo.guard = none) (it : Operand) (hop : oo.op = Op.next it false) (hk0 : P.underlying kt = some .string) (hit : a.eval it = .pointer (some ⟨r, 0, none⟩))
    (hDone : (∀ k, lf k = false) → wpList P ops Q rest (a.put oo.dst (.tuple #[.bool false])) w)
    (hMore : ∀ (k : ByteArray) (x : α) (w' : World) (cnt' : Nat), lf k = true → g k = some x → k.size ≤ maxLen → cnt' < cnt → Hp o w' (rngL kt L M r n c g (fun z => lf z && !decide (z = k)) cnt' :: l) → (Instr.entry (.pointer (some ⟨r, 0, none⟩))).run P w' = .ok (.tuple #[.string k, L.enc x]) w' → wpList P ops Q rest (a.put oo.dst (.tuple #[.bool true, .string k, L.enc x])) w') : wpList P ops Q (oo :: rest) a w := by
  have h' := h
  obtain ⟨D, left, hr, hM, hl, hlf⟩ : ∃ D left, w.ranges P kt L.R M r c D left cnt ∧ MI L g D n ∧ (∀ kl, left kl = true → Maps.has D kl = true) ∧ ∀ k, left (klit k) = lf k := h.say fun {A R} hp _ _ => hp.2
  refine wpList_next_ranges w hg it hop kt (string_keyed hk0) L.R Value.string L.enc (fun key kl hk => by
      cases key <;> simp [keyOf, hk0, mapKey] at hk
      exact ⟨_, rfl⟩) (fun v y hv => by obtain ⟨x, -, e, -⟩ := L.inv v y hv; exact ⟨x, e⟩) M r c D left cnt hit hr (fun _ hz => hDone fun k => by rw [← hlf]; exact hz _) (fun k x kl y w' cnt' hk hlk hv hat hrg hlt hgr hsz hen => ?_)
  obtain ⟨x', hok, ex, hy⟩ := L.inv _ _ hv
  have hks : k.size ≤ maxLen ∧ klit k = kl := by
    simp [keyOf, hk0, mapKey] at hk
    exact hk
  obtain ⟨hks, rfl⟩ := hks
  have hgk : ∃ z, g k = some z := by
    have := hl _ hlk
    rw [hM.hs] at this
    exact Option.isSome_iff_exists.1 this
  obtain ⟨z, hz⟩ := hgk
  have e2 := hat (L.lit z)
  rw [hM.av, hz, hy] at e2
  have e3 : z = x' := L.inj _ _ e2
  subst e3
  rw [ex] at hen
  have hh := hMore k z w' cnt' (by rw [← hlf]; exact hlk) hz hks hlt (h'.moved (Below.refl _ _) (ts := [rngL kt L M r n c g (fun z => lf z && !decide (z = k)) cnt']) fun {A R} hp hA hR hAR => mvd1 (A' := A) ⟨hp.1, D, _, hrg, hM, fun kl hkl => hl kl (by rw [Bool.and_eq_true] at hkl; exact hkl.1), fun z => by show (left (klit z) && !(klit z).sameKey (klit k)) = _; rw [hlf, klit_same]⟩ (fr_grown hgr ((hp.1 r).2 (.inr rfl))) hR hAR fun x hx => .inl hx).1 hen
  rw [← ex] at hh
  exact hh
theorem Hp.rngLLeft (h : Hp o w (rngL kt L M r n c g lf cnt :: l)) : w.rangeLeft M r = cnt := h.say fun {A R} hp _ _ => by
  obtain ⟨-, D, left, hr, -⟩ := hp
  exact hr.left_eq
end
end Go.Proofs.Ytkpcobaklbfpcaa.Sp
