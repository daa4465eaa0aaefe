/- A Recent as a thing (recT), and its calls beside whatever else there is. Conditions: bounds. -/
import Derived.Test.YtkpcobaklbfpcaaSp6
import Derived.Test.YtkpcobaklbfpcaaKa1
import Derived.Test.YtkpcobaklbfpcaaCa9
namespace Go.Proofs.Ytkpcobaklbfpcaa.Ka
set_option linter.unusedVariables false
set_option linter.unusedSimpArgs false
open Go.ChangeShapes Go.WideShapes Go.ChangeAt Go.RowKit Go.Maps Go.WideMaps
open Sp (Th Hp Stays All)
theorem rat_keep {w w' : World} {T M E : Nat} {L : Ca.Lk} {D : DataW Unit} (h : Ca.RAt w T M E L D) (hb : ∀ x, Ca.own T M E L x → w'.heap[x]? = w.heap[x]?) : Ca.RAt w' T M E L D := h.keep hb
/-- The keys K, the one used longest ago first. -/
def recT (T : Nat) (K : List ByteArray) : Th :=
  ⟨fun O _ w => ∃ M E L D, (Ca.RAt w T M E L D ∧ L.map (·.2) = K) ∧ ∀ x, O x ↔ Ca.own T M E L x,
   fun {O R w} ⟨M, E, L, D, h, ho⟩ x hx => h.1.lt ((ho x).1 hx),
   fun {O R R' w w'} ⟨M, E, L, D, h, ho⟩ _ _ _ hb => ⟨M, E, L, D, ⟨rat_keep h.1 fun x hx => hb x (.inl ((ho x).2 hx)), h.2⟩, ho⟩⟩
section
variable {o w w' wb : World} {l : List Th} {T : Nat} {K : List ByteArray}
theorem rec_moved {A R : Nat → Prop} {M E M' E' : Nat} {L L' : Ca.Lk} {D' : DataW Unit} {K' : List ByteArray} (hA : ∀ x, A x ↔ Ca.own T M E L x) (hR : ∀ x, R x → x < wb.heap.size) (hAR : ∀ x, A x → ¬ R x) (hm : Ca.Mv T M E L wb M' E' L' D' w') (hK : L'.map (·.2) = K') : Sp.Mvd A R wb w' [recT T K'] :=
  Sp.mvd1 (A' := Ca.own T M' E' L') ⟨M', E', L', D', ⟨hm.at_, hK⟩, fun x => Iff.rfl⟩ ⟨hm.fr.os, hm.fr.tape, hm.fr.output, hm.fr.size, fun i hi hn => hm.fr.block i hi fun hh => hn ((hA i).2 hh)⟩ hR hAR fun x hx => (hm.own x hx).imp (hA x).2 id
theorem rec_touch (h : Hp o w (recT T K :: l)) (hw : Below w.heap.size w wb) (k : ByteArray) (hk : k.size ≤ maxLen) (hl : K.length ≤ 1000000) :
    Calls Try.prog 35 #[.pointer (some ⟨T, 0, none⟩), .string k] wb fun e w' => e = .returned (.bool (!Ca.inK k K)) ∧ Hp o w' (recT T (Ca.touchK k K) :: l) ∧ Stays w wb w' :=
  h.call1 (ts := [recT T (Ca.touchK k K)]) hw fun {A R} ⟨M, E, L, D, hp, ho⟩ hA hR hAR => by
    obtain ⟨h1, h2⟩ := hp
    refine (Ca.touch_calls h1 k hk (by rw [← h2, List.length_map] at hl; unfold maxLen; omega)).mono ?_
    rintro e w' ⟨rfl, x, D', hm⟩
    exact ⟨by rw [h2], rec_moved ho (fun x hx => Nat.lt_of_lt_of_le (hR x hx) hw.size) hAR hm (by rw [List.map_append, Ca.dropL_map, h2]; rfl)⟩
theorem rec_drop (h : Hp o w (recT T K :: l)) (hw : Below w.heap.size w wb) (k : ByteArray) (hk : k.size ≤ maxLen) :
    Calls Try.prog 37 #[.pointer (some ⟨T, 0, none⟩), .string k] wb fun e w' => e = .returned (.bool (Ca.inK k K)) ∧ Hp o w' (recT T (Ca.dropK k K) :: l) ∧ Stays w wb w' :=
  h.call1 (ts := [recT T (Ca.dropK k K)]) hw fun {A R} ⟨M, E, L, D, hp, ho⟩ hA hR hAR => by
    obtain ⟨h1, h2⟩ := hp
    refine (Ca.drop_calls h1 k hk).mono ?_
    rintro e w' ⟨rfl, D', hm⟩
    exact ⟨by rw [h2], rec_moved ho (fun x hx => Nat.lt_of_lt_of_le (hR x hx) hw.size) hAR hm (by rw [Ca.dropL_map, h2])⟩
theorem rec_has (h : Hp o w (recT T K :: l)) (hw : Below w.heap.size w wb) (k : ByteArray) (hk : k.size ≤ maxLen) (b : Bool) (hb : Hid (Ca.inK k K = b)) :
    Calls Try.prog 33 #[.pointer (some ⟨T, 0, none⟩), .string k] wb fun e w' => e = .returned (.bool b) ∧ wb = w' := by
  refine (h.bel hw).say fun {A R} ⟨M, E, L, D, hp, ho⟩ _ _ => ?_
  rw [← hb.out, ← hp.2, ← Ca.look_isSome]
  exact Ca.has_calls hp.1 k hk
theorem rec_oldest (h : Hp o w (recT T K :: l)) (hw : Below w.heap.size w wb) (but : ByteArray) (u : Option ByteArray) (hu : Hid (Ca.oldK but K = u)) :
    Calls Try.prog 34 #[.pointer (some ⟨T, 0, none⟩), .string but] wb fun e w' => e = .returned (.tuple #[.string (u.getD ⟨#[]⟩), .bool u.isSome]) ∧ wb = w' := by
  refine (h.bel hw).say fun {A R} ⟨M, E, L, D, hp, ho⟩ _ _ => ?_
  exact Ca.oldest_calls hp.1 but u (by rw [hp.2]; exact hu)
theorem rec_new (h : Hp o w l) (hw : Below w.heap.size w wb) :
    Calls Try.prog 32 #[] wb fun e w' => ∃ T, e = .returned (.pointer (some ⟨T, 0, none⟩)) ∧ Hp o w' (recT T [] :: l) ∧ Stays w wb w' := by
  refine (Ca.new_calls wb).mono ?_
  rintro e w' ⟨T, M, E, rfl, h1, h2, h3⟩
  exact ⟨T, rfl, Hp.add (h.bel hw) h2 (ts := [recT T []]) fun {R} hR => ⟨Ca.own T M E [], R, ⟨_, fun _ => False, ⟨M, E, [], .map [], ⟨h1, rfl⟩, fun _ => Iff.rfl⟩, fun _ h => h, fun _ _ h => h, fun x => by simp⟩, fun x hx => ⟨h3 x hx, fun hr => by have := hR x hr; have := h3 x hx; omega⟩, fun _ h => h, fun x hx => ⟨.inl hx, Nat.lt_of_lt_of_le (hR x hx) h2.size⟩⟩, Nat.le_trans hw.size h2.size, fun x _ hx => h2.block x hx⟩
end
section
variable {o w w' wb : World} {l : List Th} {T : Nat} {K : List ByteArray}
theorem rec_len (h : Hp o w (recT T K :: l)) (hw : Below w.heap.size w wb) :
    Calls Try.prog 29 #[.pointer (some ⟨T, 0, none⟩)] wb fun e w' => e = .returned (.int .i64 K.length) ∧ wb = w' := by
  refine (h.bel hw).say fun {A R} ⟨M, E, L, D, hp, ho⟩ _ _ => ?_
  obtain ⟨h1, h2⟩ := hp
  subst h2
  rw [List.length_map]
  exact Ca.len_calls h1
theorem rec_all (h : Hp o w (recT T K :: l)) (hw : Below w.heap.size w wb) (hl : K.length ≤ 1000000) :
    Calls Try.prog 30 #[.pointer (some ⟨T, 0, none⟩)] wb fun e w' => ∃ v, e = .returned v ∧ Ca.RowT wb w' v K := by
  refine (h.bel hw).say fun {A R} ⟨M, E, L, D, hp, ho⟩ _ _ => ?_
  obtain ⟨h1, h2⟩ := hp
  subst h2
  exact Ca.all_calls h1 (by rw [List.length_map] at hl; exact hl)
end
end Go.Proofs.Ytkpcobaklbfpcaa.Ka
