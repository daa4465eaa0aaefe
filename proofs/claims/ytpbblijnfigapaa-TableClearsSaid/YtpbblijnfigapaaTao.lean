/- Package table: a table beside a map that says the same. No condition. -/
import Derived.Test.YtpbblijnfigapaaTaj
import Derived.Test.YtpbblijnfigapaaTan
import Derived.Maps.OwnSet
namespace Go.Proofs.Ytpbblijnfigapaa.Ta
open Go.ChangeShapes Go.WideShapes Go.ChangeAt Go.RowKit Go.Maps Go.WideMaps
/-- What a key has. -/
def look (s : St) (k : ByteArray) : Option Int := match fnd s k (hk k) with
  | none => none
  | some _ => some (valS s k)
theorem look_some (s : St) (k : ByteArray) : (fnd s k (hk k)).isSome = (look s k).isSome := by
  unfold look
  cases fnd s k (hk k) <;> rfl
theorem look_val (s : St) (k : ByteArray) : valS s k = (look s k).getD 0 := by
  unfold look
  cases h : fnd s k (hk k)
  · unfold valS; rw [h]; rfl
  · rfl
theorem Kp.look_iff {s : St} (h : Kp s) (k : ByteArray) (n : Int) : look s k = some n ↔ Has s k n := by
  rw [h.has]
  unfold look
  cases hf : fnd s k (hk k)
  · simp
  · simp
theorem look_ext {s s' : St} {k k' : ByteArray} (h : Kp s) (h' : Kp s') (e : ∀ n, Has s' k' n ↔ Has s k n) : look s' k' = look s k := by
  apply Option.ext
  intro n
  rw [h.look_iff, h'.look_iff, e]
theorem look_step {s : St} (h : Kp s) (hO : OkS 0 s) (k : ByteArray) : look (step s) k = look s k := look_ext h (h.step hO).1 ((h.step hO).2 k)
theorem look_put {s : St} (h : Kp s) (hO : OkS 4 s) (hl : lenS s ≤ 511) (k : ByteArray) (n : Int) (k' : ByteArray) : look (putS s k n) k' = if k' = k then some n else look s k' := by
  obtain ⟨p, q⟩ := h.put hO hl k n
  by_cases hkk : k' = k
  · subst hkk
    rw [if_pos rfl]
    exact (p.look_iff _ _).2 ((q _ _).2 (.inl ⟨rfl, rfl⟩))
  · rw [if_neg hkk]
    refine look_ext h p fun m => ?_
    rw [q]
    exact ⟨fun a => by rcases a with a | a; exact absurd a.1 hkk; exact a.2, fun a => .inr ⟨hkk, a⟩⟩
theorem look_drop {s : St} (h : Kp s) (k k' : ByteArray) : look (dropS s k) k' = if k' = k then none else look s k' := by
  obtain ⟨p, q⟩ := h.drop k
  by_cases hkk : k' = k
  · subst hkk
    rw [if_pos rfl]
    cases e : look (dropS s k') k' with
    | none => rfl
    | some n => exact absurd rfl ((q _ _).1 ((p.look_iff _ _).1 e)).1
  · rw [if_neg hkk]
    refine look_ext h p fun m => ?_
    rw [q]
    exact ⟨fun a => a.2, fun a => ⟨hkk, a⟩⟩
theorem look_new (k : ByteArray) : look newS k = none := by
  cases e : look newS k with
  | none => rfl
  | some n => exact absurd ((Kp.new.look_iff _ _).1 e) (has_new k n)
def klit (k : ByteArray) : Lit := .string k.data.toList
theorem klit_ne {a b : ByteArray} (h : a ≠ b) : klit a ≠ klit b := fun e => h (by
  unfold klit at e
  injection e with e
  cases a; cases b
  simpa using e)
theorem klit_key (k : ByteArray) : WideAt.IsKeyLit (klit k) := True.intro
/-- A map that says what the table says. -/
structure KI (s : St) (D : DataW Unit) : Prop where
  kp : Kp s
  ti : Tidy D
  hs : ∀ k, Maps.has D (klit k) = (look s k).isSome
  av : ∀ k, D.atKey (klit k) (.lit (.int .i64 0)) = .lit (.int .i64 ((look s k).getD 0))
  sz : (Maps.size D : Int) = lenS s
theorem KI.step {s : St} {D : DataW Unit} (h : KI s D) (hO : OkS 0 s) : KI (step s) D :=
  ⟨(h.kp.step hO).1, h.ti, fun k => by rw [look_step h.kp hO]; exact h.hs k, fun k => by rw [look_step h.kp hO]; exact h.av k, by rw [step_len hO]; exact h.sz⟩
theorem KI.put {s : St} {D : DataW Unit} (h : KI s D) (hO : OkS 4 s) (hl : lenS s ≤ 511) (k : ByteArray) (hk1 : k.size ≤ 1000) (n : Int) : KI (putS s k n) (D.put (klit k) (.lit (.int .i64 n))) := by
  refine ⟨(h.kp.put hO hl k n).1, h.ti.put (klit_key k) _, fun k' => ?_, fun k' => ?_, ?_⟩
  · rw [look_put h.kp hO hl]
    by_cases hkk : k' = k
    · subst hkk; rw [if_pos rfl, has_put_same h.ti.isMap (klit_key _)]; rfl
    · rw [if_neg hkk, has_put_other (klit_ne hkk)]; exact h.hs k'
  · rw [look_put h.kp hO hl]
    by_cases hkk : k' = k
    · subst hkk; rw [if_pos rfl, atKey_put_same h.ti.isMap (klit_key _)]; rfl
    · rw [if_neg hkk, atKey_put_other (klit_ne hkk)]; exact h.av k'
  · rw [size_put h.ti, (putS_ok hO hl k hk1 n).2, look_some, ← h.hs, ← h.sz]
    cases Maps.has D (klit k) <;> simp
theorem KI.drop {s : St} {D : DataW Unit} (h : KI s D) (hO : OkS 4 s) (k : ByteArray) : KI (dropS s k) (D.del (klit k)) := by
  refine ⟨(h.kp.drop k).1, h.ti.del _, fun k' => ?_, fun k' => ?_, ?_⟩
  · rw [look_drop h.kp]
    by_cases hkk : k' = k
    · subst hkk; rw [if_pos rfl, has_del_same]; rfl
    · rw [if_neg hkk, has_del_other (klit_ne hkk)]; exact h.hs k'
  · rw [look_drop h.kp]
    by_cases hkk : k' = k
    · subst hkk; rw [if_pos rfl, atKey_del_same]; rfl
    · rw [if_neg hkk, atKey_del_other (klit_ne hkk)]; exact h.av k'
  · have e := size_del (k := klit k) h.ti
    rw [(dropS_ok hO k).2, look_some, ← h.hs, ← h.sz, ← e]
    cases Maps.has D (klit k) <;> simp
theorem KI.new : KI newS (.map []) := ⟨Kp.new, tidy_empty, fun k => by rw [look_new]; rfl, fun k => by rw [look_new]; rfl, rfl⟩
theorem RI.mono {P Q : Nat} {s : St} (h : RI P s) (hQ : P ≤ Q) : RI Q s := ⟨h.ok, by have := h.q; omega, fun e => by have := h.r e; omega, h.m⟩
theorem uStr : Try.prog.underlying 9 = some .string := Try.underlying9
theorem keyed : Keyed Try.prog 9 := string_keyed Try.underlying9
theorem hkey {k : ByteArray} (h : k.size ≤ maxLen) : keyOf Try.prog 9 (.string k) = some (klit k) := keyOf_string_mk Try.underlying9 h
/-- The table s at T, the map D at M, all of it at block b0 or above; what lay below in the world o stands. -/
def TM (b0 : Nat) (o : World) (T M : Nat) (w : World) (s : St) (D : DataW Unit) (n : Nat) : Prop :=
  b0 ≤ o.heap.size ∧ w.ownsMap Try.prog 9 (plainElem Try.prog 2) M n D ∧ b0 ≤ M ∧ 0 < s.now.length ∧ ∃ A B, TAt w T A B s ∧ (∀ j, own T A B s j → b0 ≤ j ∧ j ≠ M) ∧ Fr (fun j => b0 ≤ j) o w
theorem map_same {H : Type} {P : Program} {k : TypeId} {R : Value → Option (DataW H × List MemPlace)} {w w' : World} {b n : Nat} {D : DataW H} (h : w.ownsMap P k R b n D) (e : w'.heap[b]? = w.heap[b]?) : w'.ownsMap P k R b n D := by
  obtain ⟨es, clock, hb, F, hs, hD⟩ := h
  exact ⟨es, clock, e.trans hb, F, hs, hD⟩
theorem TM.moved {b0 : Nat} {o : World} {T M A B n : Nat} {w w' : World} {s s' : St} {D : DataW Unit} (hb : b0 ≤ o.heap.size) (hm : w.ownsMap Try.prog 9 (plainElem Try.prog 2) M n D) (hM : b0 ≤ M) (hl : 0 < s'.now.length) (hP : ∀ j, own T A B s j → b0 ≤ j ∧ j ≠ M) (hF : Fr (fun j => b0 ≤ j) o w) (h : Moved T A B s w s' w') : TM b0 o T M w' s' D n := by
  obtain ⟨H1, H2, a, b, c⟩ := h
  refine ⟨hb, map_same hm (b.block M hm.lt fun e => (hP M e).2 rfl), hM, hl, H1, H2, a, fun j hj => ?_, hF.trans (b.mono fun j hj => (hP j hj).1)⟩
  rcases c j hj with e | e
  · exact hP j e
  · have := hm.lt
    have := hF.size
    exact ⟨by omega, by omega⟩
theorem TM.put {b0 : Nat} {o : World} {T M n : Nat} {w : World} {s : St} {D : DataW Unit} (h : TM b0 o T M w s D n) (hO : OkS 0 s) (hl : lenS s ≤ 511) (k : ByteArray) (hk1 : k.size ≤ 1000) (v : Int) :
    Calls Try.prog 11 #[.pointer (some ⟨T, 0, none⟩), .string k, .int .i64 v] w fun en w' => en = .returned (.bool (fnd (step s) k (hk k)).isNone) ∧ TM b0 o T M w' (putS (step s) k v) D n := by
  obtain ⟨hb, hm, hM, -, A, B, hT, hP, hF⟩ := h
  have hp := (putS_ok (step_ok hO) (by rw [step_len hO]; exact hl) k hk1 v).1.p1.facts
  exact (put_calls w T A B s hT hO hl k hk1 v).mono fun _ _ ⟨a, b⟩ => ⟨a, TM.moved hb hm hM (by omega) hP hF b⟩
theorem TM.drop {b0 : Nat} {o : World} {T M n : Nat} {w : World} {s : St} {D : DataW Unit} (h : TM b0 o T M w s D n) (hO : OkS 0 s) (k : ByteArray) (hk1 : k.size ≤ 1000) :
    Calls Try.prog 10 #[.pointer (some ⟨T, 0, none⟩), .string k] w fun en w' => en = .returned (.tuple #[.int .i64 (valS (step s) k), .bool (fnd (step s) k (hk k)).isSome]) ∧ TM b0 o T M w' (dropS (step s) k) D n := by
  obtain ⟨hb, hm, hM, -, A, B, hT, hP, hF⟩ := h
  have hp := (dropS_ok (step_ok hO) k).1.p1.facts
  exact (drop_calls w T A B s hT hO k hk1).mono fun _ _ ⟨a, b⟩ => ⟨a, TM.moved hb hm hM (by omega) hP hF b⟩
theorem TM.get {b0 : Nat} {o : World} {T M n : Nat} {w : World} {s : St} {D : DataW Unit} (h : TM b0 o T M w s D n) (hO : OkS 0 s) (k : ByteArray) (hk1 : k.size ≤ 1000) :
    Calls Try.prog 13 #[.pointer (some ⟨T, 0, none⟩), .string k] w fun en w' => en = .returned (.tuple #[.int .i64 (valS (step s) k), .bool (fnd (step s) k (hk k)).isSome]) ∧ TM b0 o T M w' (step s) D n := by
  obtain ⟨hb, hm, hM, -, A, B, hT, hP, hF⟩ := h
  have hp := (step_ok hO).p1.facts
  exact (get_calls w T A B s hT hO k hk1).mono fun _ _ ⟨a, b⟩ => ⟨a, TM.moved hb hm hM (by omega) hP hF b⟩
theorem TM.drew {b0 : Nat} {o : World} {T M n : Nat} {w : World} {s : St} {D : DataW Unit} (h : TM b0 o T M w s D n) (m : Nat) : TM b0 o T M (w.drewN m) s D n := by
  obtain ⟨hb, hm, hM, hl, A, B, hT, hP, hF⟩ := h
  exact ⟨hb, map_same hm rfl, hM, hl, A, B, hT.below (drewN_below w m), hP, hF.trans (Fr.drewN w m)⟩
theorem TM.bel {b0 : Nat} {o : World} {T M n : Nat} {w w' : World} {s : St} {D : DataW Unit} (h : TM b0 o T M w s D n) (hw : Below w.heap.size w w') : TM b0 o T M w' s D n := by
  obtain ⟨hb, hm, hM, hl, A, B, hT, hP, hF⟩ := h
  exact ⟨hb, map_same hm (hw.block M hm.lt), hM, hl, A, B, hT.below hw, hP, hF.trans (Fr.of_below hw)⟩
theorem TM.own {b0 : Nat} {o : World} {T M n : Nat} {w : World} {s : St} {D : DataW Unit} (h : TM b0 o T M w s D n) : w.ownsMap Try.prog 9 (plainElem Try.prog 2) M n D := h.2.1
theorem TM.len {b0 : Nat} {o : World} {T M n : Nat} {w : World} {s : St} {D : DataW Unit} (h : TM b0 o T M w s D n) {c : Int} (hO : Ok c s) :
    Calls Try.prog 12 #[.pointer (some ⟨T, 0, none⟩)] w fun e w' => e = .returned (.int .i64 (lenS s)) ∧ ∃ n, w' = w.drewN n := by
  obtain ⟨-, -, -, -, A, B, hT, -, -⟩ := h
  exact len_calls w T A B s hT hO
theorem TM.written {b0 : Nat} {o : World} {T M n n' : Nat} {w w' : World} {s : St} {D D' : DataW Unit} (h : TM b0 o T M w s D n) (hm' : w'.ownsMap Try.prog 9 (plainElem Try.prog 2) M n' D') (hg : w.grownBy w' (some M)) : TM b0 o T M w' s D' n' := by
  obtain ⟨hb, hm, hM, hl, A, B, hT, hP, hF⟩ := h
  have hf : Fr (fun j => j = M) w w' := ⟨hg.os, hg.tape, hg.output, hg.size, fun i hi hne => hg.block i hi (fun e => hne (by injection e))⟩
  exact ⟨hb, hm', hM, hl, A, B, hT.fr hl hf (fun e => (hP _ (.inl rfl)).2 e) (fun e => (hP _ (.inr (.inl rfl))).2 e) (fun hn e => (hP _ (.inr (.inr ⟨hn, rfl⟩))).2 e), hP, hF.trans (hf.mono fun j e => by subst e; exact hM)⟩
theorem TM.below {b0 : Nat} {o : World} {T M n : Nat} {w : World} {s : St} {D : DataW Unit} (h : TM b0 o T M w s D n) : Below b0 o w := by
  obtain ⟨hb, -, -, -, A, B, -, -, hF⟩ := h
  exact hF.below hb (fun i hi => by omega)
theorem TM.new {w w' : World} (hT : TAt w' (w.heap.size + 2) (w.heap.size + 1) (w.heap.size + 1) newS) (hb : Below w.heap.size w w') : TM w.heap.size w (w.heap.size + 2) w'.heap.size (w'.alloc (.map #[] 0)) newS (.map []) 0 := by
  have h2 := hT.a.lt
  refine ⟨Nat.le_refl _, World.ownsMap_made _ _ _ _, hb.size, by decide, _, _, hT.below (bbox _), fun j hj => ?_, (Fr.of_below hb).trans (Fr.of_below (bbox _))⟩
  rcases hj with e | e | ⟨e, -⟩
  · omega
  · omega
  · exact absurd e (Nat.lt_irrefl _)
end Go.Proofs.Ytpbblijnfigapaa.Ta
