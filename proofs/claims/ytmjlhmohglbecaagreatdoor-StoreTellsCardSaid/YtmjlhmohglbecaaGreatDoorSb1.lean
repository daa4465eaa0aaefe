/- A table, a Recent, an Expiry as things (tabT, recT, expT), and their calls beside whatever else there is. Conditions: bounds. -/
import Derived.Test.YtmjlhmohglbecaaGreatDoorSpA
import Derived.Test.YtmjlhmohglbecaaGreatDoorTaE
import Derived.Test.YtmjlhmohglbecaaGreatDoorCaB
import Derived.Test.YtmjlhmohglbecaaGreatDoorEaY
namespace Go.Proofs.YtmjlhmohglbecaaGreatDoor.Sa
set_option linter.unusedVariables false
set_option linter.unusedSimpArgs false
open Go.ChangeShapes Go.WideShapes Go.ChangeAt Go.RowKit Go.Maps Go.WideMaps
open Sp (Th Hp Stays All)
theorem cell_eq {w w' : World} {x : Nat} (h : w'.heap[x]? = w.heap[x]?) (i : Nat) : w'.cell? ⟨x, i, none⟩ = w.cell? ⟨x, i, none⟩ := World.cell?_of_block (a := ⟨x, i, none⟩) h
theorem froz_eq {w w' : World} {x : Nat} (h : w'.heap[x]? = w.heap[x]?) (i : Nat) : w'.frozen? ⟨x, i, none⟩ = w.frozen? ⟨x, i, none⟩ := World.frozen?_of_block (a := ⟨x, i, none⟩) h
/-- Two worlds that agree where a table lies. -/
theorem tab_keep {w w' : World} {T G1 G2 : Nat} {s : Ta.St} (h : Ta.TAt w T G1 G2 s) (hl : 0 < s.now.length) (hb : ∀ x, Ta.own T G1 G2 s x → w'.heap[x]? = w.heap[x]?) : Ta.TAt w' T G1 G2 s := by
  have hT := hb T (.inl rfl)
  exact ⟨h.a.keep (fun i _ => cell_eq hT _) (froz_eq hT) (fun _ => hb G1 (.inr (.inl rfl))), h.b.keep (fun i _ => cell_eq hT _) (froz_eq hT) (fun hn => hb G2 (.inr (.inr ⟨hn, rfl⟩))), (cell_eq hT 6).trans h.m, h.g⟩
theorem tab_lt {w : World} {T G1 G2 : Nat} {s : Ta.St} (h : Ta.TAt w T G1 G2 s) (hl : 0 < s.now.length) {x : Nat} (hx : Ta.own T G1 G2 s x) : x < w.heap.size := by
  rcases hx with rfl | rfl | ⟨hn, rfl⟩
  · exact h.a.lt
  · exact h.a.ltG hl
  · exact h.b.ltG hn
/-- A table of n keys, which says f of them. -/
structure TabP (E : Nat) (f : ByteArray → Option Int) (n : Nat) (G1 G2 : Nat) (s : Ta.St) (w : World) : Prop where
  at_ : Ta.TAt w E G1 G2 s
  ok : Ta.OkS 0 s
  kp : Ta.Kp s
  len : Ta.lenS s = n
  look : ∀ k, Ta.look s k = f k
theorem TabP.l0 {E n G1 G2 : Nat} {f : ByteArray → Option Int} {s : Ta.St} {w : World} (h : TabP E f n G1 G2 s w) : 0 < s.now.length := by have := h.ok.p1.facts; omega
def tabT (E : Nat) (f : ByteArray → Option Int) (n : Nat) : Th :=
  ⟨fun O _ w => ∃ G1 G2 s, TabP E f n G1 G2 s w ∧ ∀ x, O x ↔ Ta.own E G1 G2 s x,
   fun {O R w} ⟨G1, G2, s, h, ho⟩ x hx => tab_lt h.at_ h.l0 ((ho x).1 hx),
   fun {O R R' w w'} ⟨G1, G2, s, h, ho⟩ _ _ _ hb => ⟨G1, G2, s, ⟨tab_keep h.at_ h.l0 fun x hx => hb x (.inl ((ho x).2 hx)), h.ok, h.kp, h.len, h.look⟩, ho⟩⟩
section
variable {o w w' wb : World} {l : List Th} {E n : Nat} {f : ByteArray → Option Int}
theorem tab_moved {A R : Nat → Prop} {G1 G2 : Nat} {s s' : Ta.St} {f' : ByteArray → Option Int} {n' : Nat} (hA : ∀ x, A x ↔ Ta.own E G1 G2 s x) (hR : ∀ x, R x → x < wb.heap.size) (hAR : ∀ x, A x → ¬ R x) (hm : Ta.Moved E G1 G2 s wb s' w') (ok : Ta.OkS 0 s') (kp : Ta.Kp s') (len : Ta.lenS s' = n') (lk : ∀ k, Ta.look s' k = f' k) : Sp.Mvd A R wb w' [tabT E f' n'] := by
  obtain ⟨H1, H2, h1, h2, h3⟩ := hm
  exact Sp.mvd1 (A' := Ta.own E H1 H2 s') ⟨H1, H2, s', ⟨h1, ok, kp, len, lk⟩, fun x => Iff.rfl⟩ ⟨h2.os, h2.tape, h2.output, h2.size, fun i hi hn => h2.block i hi fun hh => hn ((hA i).2 hh)⟩ hR hAR fun x hx => (h3 x hx).imp (hA x).2 id
theorem tab_get (h : Hp o w (tabT E f n :: l)) (hw : Below w.heap.size w wb) (k : ByteArray) (hk : k.size ≤ 1000) :
    Calls Tryz.prog 45 #[.pointer (some ⟨E, 0, none⟩), .string k] wb fun e w' => e = .returned (.tuple #[.int .i64 ((f k).getD 0), .bool (f k).isSome]) ∧ Hp o w' (tabT E f n :: l) ∧ Stays w wb w' :=
  h.call1 (ts := [tabT E f n]) hw fun {A R} ⟨G1, G2, s, hp, ho⟩ hA hR hAR => by
    refine (Ta.get_calls wb E G1 G2 s hp.at_ hp.ok k hk).mono ?_
    rintro e w' ⟨rfl, hm⟩
    have hlk := fun k => (Ta.look_step hp.kp hp.ok k).trans (hp.look k)
    refine ⟨by rw [Ta.look_some, Ta.look_val, hlk], tab_moved ho (fun x hx => Nat.lt_of_lt_of_le (hR x hx) hw.size) hAR hm (Ta.step_ok hp.ok).to0 (hp.kp.step hp.ok).1 ((Ta.step_len hp.ok).trans hp.len) hlk⟩
def putF (f : ByteArray → Option Int) (k : ByteArray) (v : Option Int) : ByteArray → Option Int := fun x => if x = k then v else f x
theorem tab_put (h : Hp o w (tabT E f n :: l)) (hw : Below w.heap.size w wb) (k : ByteArray) (hk : k.size ≤ 1000) (hn : n ≤ 511) (v : Int) :
    Calls Tryz.prog 75 #[.pointer (some ⟨E, 0, none⟩), .string k, .int .i64 v] wb fun e w' => e = .returned (.bool (f k).isNone) ∧ Hp o w' (tabT E (putF f k (some v)) (n + if (f k).isSome then 0 else 1) :: l) ∧ Stays w wb w' :=
  h.call1 (ts := [tabT E (putF f k (some v)) (n + if (f k).isSome then 0 else 1)]) hw fun {A R} ⟨G1, G2, s, hp, ho⟩ hA hR hAR => by
    have hl : Ta.lenS s ≤ 511 := by rw [hp.len]; omega
    have hok := Ta.step_ok hp.ok
    have hl4 : Ta.lenS (Ta.step s) ≤ 511 := by rw [Ta.step_len hp.ok]; exact hl
    have hkp := (hp.kp.step hp.ok).1
    have hlk := fun k => (Ta.look_step hp.kp hp.ok k).trans (hp.look k)
    have hso := Ta.look_some (Ta.step s) k
    rw [hlk] at hso
    obtain ⟨p1, p2⟩ := Ta.putS_ok hok hl4 k hk v
    refine (Ta.put_calls wb E G1 G2 s hp.at_ hp.ok hl k hk v).mono ?_
    rintro e w' ⟨rfl, hm⟩
    refine ⟨by rw [← Option.not_isSome, hso, Option.not_isSome], tab_moved ho (fun x hx => Nat.lt_of_lt_of_le (hR x hx) hw.size) hAR hm p1 (hkp.put hok hl4 k v).1 ?_ fun k' => ?_⟩
    · rw [p2, hso, Ta.step_len hp.ok, hp.len]
      cases (f k).isSome <;> rfl
    · rw [Ta.look_put hkp hok hl4]
      unfold putF
      rw [hlk]
theorem tab_drop (h : Hp o w (tabT E f n :: l)) (hw : Below w.heap.size w wb) (k : ByteArray) (hk : k.size ≤ 1000) :
    Calls Tryz.prog 83 #[.pointer (some ⟨E, 0, none⟩), .string k] wb fun e w' => e = .returned (.tuple #[.int .i64 ((f k).getD 0), .bool (f k).isSome]) ∧ Hp o w' (tabT E (putF f k none) (n - if (f k).isSome then 1 else 0) :: l) ∧ Stays w wb w' :=
  h.call1 (ts := [tabT E (putF f k none) (n - if (f k).isSome then 1 else 0)]) hw fun {A R} ⟨G1, G2, s, hp, ho⟩ hA hR hAR => by
    have hok := Ta.step_ok hp.ok
    have hkp := (hp.kp.step hp.ok).1
    have hlk := fun k => (Ta.look_step hp.kp hp.ok k).trans (hp.look k)
    have hso := Ta.look_some (Ta.step s) k
    rw [hlk] at hso
    obtain ⟨p1, p2⟩ := Ta.dropS_ok hok k
    refine (Ta.drop_calls wb E G1 G2 s hp.at_ hp.ok k hk).mono ?_
    rintro e w' ⟨rfl, hm⟩
    refine ⟨by rw [hso, Ta.look_val, hlk], tab_moved ho (fun x hx => Nat.lt_of_lt_of_le (hR x hx) hw.size) hAR hm p1 (hkp.drop k).1 ?_ fun k' => ?_⟩
    · have h0 := p1.a.rng
      have h1 := p1.b.rng
      rw [hso, Ta.step_len hp.ok, hp.len] at p2
      have h2 : 0 ≤ Ta.lenS (Ta.dropS (Ta.step s) k) := by unfold Ta.lenS; omega
      rw [p2] at h2 ⊢
      revert h2
      cases (f k).isSome
      · simp
      · simp only [if_true]
        intro h2
        omega
    · rw [Ta.look_drop hkp]
      unfold putF
      rw [hlk]
theorem tab_len (h : Hp o w (tabT E f n :: l)) (hw : Below w.heap.size w wb) :
    Calls Tryz.prog 11 #[.pointer (some ⟨E, 0, none⟩)] wb fun e w' => e = .returned (.int .i64 n) ∧ ∃ m, w' = wb.drewN m := by
  refine (h.bel hw).say fun {A R} ⟨G1, G2, s, hp, ho⟩ _ _ => ?_
  rw [← hp.len]
  exact Ta.len_calls wb E G1 G2 s hp.at_ hp.ok.toOk
theorem tab_new (h : Hp o w l) (hw : Below w.heap.size w wb) :
    Calls Tryz.prog 54 #[] wb fun e w' => ∃ E, e = .returned (.pointer (some ⟨E, 0, none⟩)) ∧ Hp o w' (tabT E (fun _ => none) 0 :: l) ∧ Stays w wb w' := by
  refine (Ta.newT_calls wb).mono ?_
  rintro e w' ⟨rfl, h1, h2⟩
  refine ⟨_, rfl, Hp.add (h.bel hw) h2 (ts := [tabT (wb.heap.size + 2) (fun _ => none) 0]) fun {R} hR => ⟨Ta.own (wb.heap.size + 2) (wb.heap.size + 1) (wb.heap.size + 1) Ta.newS, R, ⟨_, fun _ => False, ⟨_, _, _, ⟨h1, Ta.newS_ok, Ta.Kp.new, rfl, Ta.look_new⟩, fun _ => Iff.rfl⟩, fun _ h => h, fun _ _ h => h, fun x => by simp⟩, fun x hx => ?_, fun _ h => h, fun x hx => ⟨.inl hx, Nat.lt_of_lt_of_le (hR x hx) h2.size⟩⟩, Nat.le_trans hw.size h2.size, fun x _ hx => h2.block x hx⟩
  have : wb.heap.size ≤ x := by rcases hx with rfl | rfl | ⟨-, rfl⟩ <;> omega
  exact ⟨this, fun hr => by have := hR x hr; omega⟩
end
theorem rat_keep {w w' : World} {T M E : Nat} {L : Ca.Lk} {D : DataW Unit} (h : Ca.RAt w T M E L D) (hb : ∀ x, Ca.own T M E L x → w'.heap[x]? = w.heap[x]?) : Ca.RAt w' T M E L D := h.keep hb
/-- The keys K, the one used longest ago first. -/
def recT (T : Nat) (K : List ByteArray) : Th :=
  ⟨fun O _ w => ∃ M E L D, (Ca.RAt w T M E L D ∧ L.map (·.2) = K) ∧ ∀ x, O x ↔ Ca.own T M E L x,
   fun {O R w} ⟨M, E, L, D, h, ho⟩ x hx => h.1.lt ((ho x).1 hx),
   fun {O R R' w w'} ⟨M, E, L, D, h, ho⟩ _ _ _ hb => ⟨M, E, L, D, ⟨rat_keep h.1 fun x hx => hb x (.inl ((ho x).2 hx)), h.2⟩, ho⟩⟩
section
variable {o w w' wb : World} {l : List Th} {T : Nat} {K : List ByteArray}
theorem rec_moved {A R : Nat → Prop} {M E M' E' : Nat} {L L' : Ca.Lk} {D' : DataW Unit} {K' : List ByteArray} (hA : ∀ x, A x ↔ Ca.own T M E L x) (hR : ∀ x, R x → x < wb.heap.size) (hAR : ∀ x, A x → ¬ R x) (hm : Ca.Mv T M E L wb M' E' L' D' w') (hK : L'.map (·.2) = K') : Sp.Mvd A R wb w' [recT T K'] :=
  Sp.mvd1 (A' := Ca.own T M' E' L') ⟨M', E', L', D', ⟨hm.at_, hK⟩, fun x => Iff.rfl⟩ ⟨hm.fr.os, hm.fr.tape, hm.fr.output, hm.fr.size, fun i hi hn => hm.fr.block i hi fun hh => hn ((hA i).2 hh)⟩ hR hAR fun x hx => (hm.own x hx).imp (hA x).2 id
theorem rec_touch (h : Hp o w (recT T K :: l)) (hw : Below w.heap.size w wb) (k : ByteArray) (hk : k.size ≤ maxLen) (hl : K.length ≤ 1000000) :
    Calls Tryz.prog 50 #[.pointer (some ⟨T, 0, none⟩), .string k] wb fun e w' => e = .returned (.bool (!Ca.inK k K)) ∧ Hp o w' (recT T (Ca.touchK k K) :: l) ∧ Stays w wb w' :=
  h.call1 (ts := [recT T (Ca.touchK k K)]) hw fun {A R} ⟨M, E, L, D, hp, ho⟩ hA hR hAR => by
    obtain ⟨h1, h2⟩ := hp
    refine (Ca.touch_calls h1 k hk (by rw [← h2, List.length_map] at hl; unfold maxLen; omega)).mono ?_
    rintro e w' ⟨rfl, x, D', hm⟩
    exact ⟨by rw [h2], rec_moved ho (fun x hx => Nat.lt_of_lt_of_le (hR x hx) hw.size) hAR hm (by rw [List.map_append, Ca.dropL_map, h2]; rfl)⟩
theorem rec_drop (h : Hp o w (recT T K :: l)) (hw : Below w.heap.size w wb) (k : ByteArray) (hk : k.size ≤ maxLen) :
    Calls Tryz.prog 84 #[.pointer (some ⟨T, 0, none⟩), .string k] wb fun e w' => e = .returned (.bool (Ca.inK k K)) ∧ Hp o w' (recT T (Ca.dropK k K) :: l) ∧ Stays w wb w' :=
  h.call1 (ts := [recT T (Ca.dropK k K)]) hw fun {A R} ⟨M, E, L, D, hp, ho⟩ hA hR hAR => by
    obtain ⟨h1, h2⟩ := hp
    refine (Ca.drop_calls h1 k hk).mono ?_
    rintro e w' ⟨rfl, D', hm⟩
    exact ⟨by rw [h2], rec_moved ho (fun x hx => Nat.lt_of_lt_of_le (hR x hx) hw.size) hAR hm (by rw [Ca.dropL_map, h2])⟩
theorem rec_has (h : Hp o w (recT T K :: l)) (hw : Below w.heap.size w wb) (k : ByteArray) (hk : k.size ≤ maxLen) (b : Bool) (hb : Hid (Ca.inK k K = b)) :
    Calls Tryz.prog 62 #[.pointer (some ⟨T, 0, none⟩), .string k] wb fun e w' => e = .returned (.bool b) ∧ wb = w' := by
  refine (h.bel hw).say fun {A R} ⟨M, E, L, D, hp, ho⟩ _ _ => ?_
  rw [← hb.out, ← hp.2, ← Ca.look_isSome]
  exact Ca.has_calls hp.1 k hk
theorem rec_oldest (h : Hp o w (recT T K :: l)) (hw : Below w.heap.size w wb) (but : ByteArray) (u : Option ByteArray) (hu : Hid (Ca.oldK but K = u)) :
    Calls Tryz.prog 79 #[.pointer (some ⟨T, 0, none⟩), .string but] wb fun e w' => e = .returned (.tuple #[.string (u.getD ⟨#[]⟩), .bool u.isSome]) ∧ wb = w' := by
  refine (h.bel hw).say fun {A R} ⟨M, E, L, D, hp, ho⟩ _ _ => ?_
  exact Ca.oldest_calls hp.1 but u (by rw [hp.2]; exact hu)
theorem rec_new (h : Hp o w l) (hw : Below w.heap.size w wb) :
    Calls Tryz.prog 55 #[] wb fun e w' => ∃ T, e = .returned (.pointer (some ⟨T, 0, none⟩)) ∧ Hp o w' (recT T [] :: l) ∧ Stays w wb w' := by
  refine (Ca.new_calls wb).mono ?_
  rintro e w' ⟨T, M, E, rfl, h1, h2, h3⟩
  exact ⟨T, rfl, Hp.add (h.bel hw) h2 (ts := [recT T []]) fun {R} hR => ⟨Ca.own T M E [], R, ⟨_, fun _ => False, ⟨M, E, [], .map [], ⟨h1, rfl⟩, fun _ => Iff.rfl⟩, fun _ h => h, fun _ _ h => h, fun x => by simp⟩, fun x hx => ⟨h3 x hx, fun hr => by have := hR x hr; have := h3 x hx; omega⟩, fun _ h => h, fun x hx => ⟨.inl hx, Nat.lt_of_lt_of_le (hR x hx) h2.size⟩⟩, Nat.le_trans hw.size h2.size, fun x _ hx => h2.block x hx⟩
end
/-- The dues S, in order. -/
structure ExpP (T : Nat) (S : List Ea.Du) (M : Nat) (v : Value) (L : List Ea.En) (D : DataW Unit) (w : World) : Prop where
  at_ : Ea.XA w T M v L D
  pm : List.Perm (L.map Ea.En.d) S
  up : Ea.UpD S
  mx : ∀ d ∈ S, d.1 ≤ 4611686018427387904
def expT (T : Nat) (S : List Ea.Du) : Th :=
  ⟨fun O _ w => ∃ M v L D, ExpP T S M v L D w ∧ ∀ x, O x ↔ Ea.own T M v L x,
   fun {O R w} ⟨M, v, L, D, h, ho⟩ x hx => h.at_.lt ((ho x).1 hx),
   fun {O R R' w w'} ⟨M, v, L, D, h, ho⟩ _ _ _ hb => ⟨M, v, L, D, ⟨h.at_.keep fun x hx => hb x (.inl ((ho x).2 hx)), h.pm, h.up, h.mx⟩, ho⟩⟩
section
variable {o w w' wb : World} {l : List Th} {T : Nat} {S : List Ea.Du}
theorem exp_moved {A R : Nat → Prop} {M M' : Nat} {v v' : Value} {L L' : List Ea.En} {D' : DataW Unit} {S' : List Ea.Du} (hA : ∀ x, A x ↔ Ea.own T M v L x) (hR : ∀ x, R x → x < wb.heap.size) (hAR : ∀ x, A x → ¬ R x) (hm : Ea.Mv T M v L wb M' v' L' D' w') (pm : List.Perm (L'.map Ea.En.d) S') (up : Ea.UpD S') (mx : ∀ d ∈ S', d.1 ≤ 4611686018427387904) : Sp.Mvd A R wb w' [expT T S'] :=
  Sp.mvd1 (A' := Ea.own T M' v' L') ⟨M', v', L', D', ⟨hm.at_, pm, up, mx⟩, fun x => Iff.rfl⟩ ⟨hm.fr.os, hm.fr.tape, hm.fr.output, hm.fr.size, fun i hi hn => hm.fr.block i hi fun hh => hn ((hA i).2 hh)⟩ hR hAR fun x hx => (hm.own x hx).imp (hA x).2 id
theorem exp_put (h : Hp o w (expT T S :: l)) (hw : Below w.heap.size w wb) (k : ByteArray) (hk : k.size ≤ maxLen) (t : Int) (h0 : 0 ≤ t) (h1 : t ≤ 4611686018427387904) (hl : S.length ≤ 100000) :
    Calls Tryz.prog 63 #[.pointer (some ⟨T, 0, none⟩), .string k, .int .i64 t] wb fun e w' => e = .returned (.int .i64 0) ∧ Hp o w' (expT T (Ea.putD k t S) :: l) ∧ Stays w wb w' :=
  h.call1 (ts := [expT T (Ea.putD k t S)]) hw fun {A R} ⟨M, v, L, D, hp, ho⟩ hA hR hAR => by
    have hR' := fun x hx => Nat.lt_of_lt_of_le (hR x hx) hw.size
    have hll : L.length ≤ 1000000 := by have := hp.pm.length_eq; rw [List.length_map] at this; omega
    have hmax : ∀ d ∈ Ea.putD k t S, d.1 ≤ 4611686018427387904 := fun d hd => by
      rcases Ea.mem_insD.1 hd with e | e
      · rw [e]; exact h1
      · exact hp.mx d (Ea.mem_dropD.1 e).1
    cases hlk : Ea.look L k with
    | some b =>
      obtain ⟨j, hj, -, e2⟩ := Ea.look_idx hlk
      subst e2
      refine (Ea.put_some hp.at_ j hj hk hll t (by omega) (by omega)).mono ?_
      rintro e w' ⟨rfl, v', l', hm, hpm⟩
      exact ⟨rfl, exp_moved ho hR' hAR hm (Ea.perm_put hp.at_.kn hp.pm hj hpm) hp.up.put hmax⟩
    | none =>
      refine (Ea.put_none hp.at_ k hk hll hlk t (by omega) (by omega)).mono ?_
      rintro e w' ⟨rfl, v', l', D', hm, hpm⟩
      exact ⟨rfl, exp_moved ho hR' hAR hm (Ea.perm_new hp.pm hlk hpm) hp.up.put hmax⟩
theorem exp_drop (h : Hp o w (expT T S :: l)) (hw : Below w.heap.size w wb) (k : ByteArray) (hk : k.size ≤ maxLen) (hl : S.length ≤ 100000) :
    Calls Tryz.prog 51 #[.pointer (some ⟨T, 0, none⟩), .string k] wb fun e w' => e = .returned (.bool (Ea.inD k S)) ∧ Hp o w' (expT T (Ea.dropD k S) :: l) ∧ Stays w wb w' :=
  h.call1 (ts := [expT T (Ea.dropD k S)]) hw fun {A R} ⟨M, v, L, D, hp, ho⟩ hA hR hAR => by
    have hR' := fun x hx => Nat.lt_of_lt_of_le (hR x hx) hw.size
    have hll : L.length ≤ 1000000 := by have := hp.pm.length_eq; rw [List.length_map] at this; omega
    rw [Ea.inD_look hp.at_.kn hp.pm]
    cases hlk : Ea.look L k with
    | some b =>
      obtain ⟨j, hj, -, e2⟩ := Ea.look_idx hlk
      subst e2
      refine (Ea.xdrop_some hp.at_ j hj hk hll).mono ?_
      rintro e w' ⟨rfl, v', l', D', hm, hpm⟩
      exact ⟨rfl, exp_moved ho hR' hAR hm (Ea.perm_drop hp.at_.kn hp.pm hpm) hp.up.drop fun d hd => hp.mx d (Ea.mem_dropD.1 hd).1⟩
    | none =>
      refine (Ea.xdrop_none hp.at_ k hk hlk).mono ?_
      rintro e w' ⟨rfl, rfl⟩
      have hn : ∀ d ∈ S, d.2 ≠ k := fun d hd => by
        obtain ⟨x, hx, rfl⟩ := List.mem_map.1 (hp.pm.mem_iff.2 hd)
        exact Ea.look_none.1 hlk x hx
      rw [Ea.drop_none hn]
      exact ⟨rfl, exp_moved ho hR' hAR (Ea.Mv.refl hp.at_) hp.pm hp.up hp.mx⟩
theorem exp_get (h : Hp o w (expT T S :: l)) (hw : Below w.heap.size w wb) (k : ByteArray) (hk : k.size ≤ maxLen) :
    Calls Tryz.prog 64 #[.pointer (some ⟨T, 0, none⟩), .string k] wb fun e w' => e = .returned (.tuple #[.int .i64 (Ea.getD k S), .bool (Ea.inD k S)]) ∧ wb = w' := by
  refine (h.bel hw).say fun {A R} ⟨M, v, L, D, hp, ho⟩ _ _ => ?_
  have hi := Ea.inD_look hp.at_.kn hp.pm k
  cases hlk : Ea.look L k with
  | some b =>
    obtain ⟨j, hj, -, e2⟩ := Ea.look_idx hlk
    subst e2
    rw [hi, hlk, Ea.getD_one (Ea.keysS hp.at_.kn hp.pm) (t := L[j].t) (hp.pm.mem_iff.1 (List.mem_map_of_mem (f := Ea.En.d) (List.getElem_mem hj)))]
    exact Ea.xget_some hp.at_ j hj hk
  | none =>
    rw [hlk] at hi
    rw [Ea.getD_none hi, hi]
    exact Ea.xget_none hp.at_ k hk hlk
theorem exp_due (h : Hp o w (expT T S :: l)) (hw : Below w.heap.size w wb) (hl : S.length ≤ 100000) (now most : Int) (hm1 : -9223372036854775808 ≤ most) (hm2 : most ≤ 9223372036854775807) :
    Calls Tryz.prog 65 #[.pointer (some ⟨T, 0, none⟩), .int .i64 now, .int .i64 most] wb fun e w' => ∃ v, e = .returned v ∧ Ea.RowT wb w' v ((Ea.dueD now most.toNat S).map (·.2)) := by
  refine (h.bel hw).say fun {A R} ⟨M, v, L, D, hp, ho⟩ _ _ => ?_
  have hll : L.length ≤ 1000000 := by have := hp.pm.length_eq; rw [List.length_map] at this; omega
  exact Ea.xdue_calls hp.at_ hll hp.up hp.pm now most hm1 hm2
theorem exp_new (h : Hp o w l) (hw : Below w.heap.size w wb) :
    Calls Tryz.prog 56 #[] wb fun e w' => ∃ T, e = .returned (.pointer (some ⟨T, 0, none⟩)) ∧ Hp o w' (expT T [] :: l) ∧ Stays w wb w' := by
  refine (Ea.new_calls wb).mono ?_
  rintro e w' ⟨T, M, rfl, h1, h2, h3, h4⟩
  have hge : ∀ x, Ea.own T M (.slice none 0 0) [] x → wb.heap.size ≤ x := fun x hx => by
    rcases hx with rfl | rfl | hx | ⟨y, hy, -⟩
    · omega
    · omega
    · cases hx
    · cases hy
  exact ⟨T, rfl, Hp.add (h.bel hw) h2 (ts := [expT T []]) fun {R} hR => ⟨Ea.own T M (.slice none 0 0) [], R, ⟨_, fun _ => False, ⟨M, _, [], _, ⟨h1, List.Perm.refl _, List.Pairwise.nil, fun d hd => by cases hd⟩, fun _ => Iff.rfl⟩, fun _ h => h, fun _ _ h => h, fun x => by simp⟩, fun x hx => ⟨hge x hx, fun hr => by have := hR x hr; have := hge x hx; omega⟩, fun _ h => h, fun x hx => ⟨.inl hx, Nat.lt_of_lt_of_le (hR x hx) h2.size⟩⟩, Nat.le_trans hw.size h2.size, fun x _ hx => h2.block x hx⟩
end
end Go.Proofs.YtmjlhmohglbecaaGreatDoor.Sa
