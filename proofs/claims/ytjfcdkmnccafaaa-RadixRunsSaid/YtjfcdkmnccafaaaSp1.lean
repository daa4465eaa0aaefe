/- Things in memory side by side: what each owns, what all may read, and what a call upon one of them leaves of the others. Of no program, no condition. -/
import Derived.WalkKit
import Derived.ProofKit
import Derived.OpenShut
import Derived.WalkSmall
import Derived.WalkSpells
import Derived.WalkLawsBesides
import Derived.Outline
import Derived.Lib.Hide
import Derived.Deep.RegionWith
import Derived.Deep.LoopGhost
import Derived.OwnWalk
import Derived.IntWalk
import Derived.Laws.AppendOwn
import Derived.Laws.IdiomStrings
import Derived.Lib.Strings
import Derived.Maps.OwnSet
import Derived.Deep.QuietTactic
import Derived.BigQuiet
namespace Go.Proofs.Ytjfcdkmnccafaaa.Sp
open Go.ChangeShapes Go.WideShapes Go.ChangeAt Go.RowKit
/-- Of w all blocks stand in w' but those that S names. -/
structure Fr (S : Nat → Prop) (w w' : World) : Prop where
  os : w'.os = w.os
  tape : w'.tape = w.tape
  output : w'.output = w.output
  size : w.heap.size ≤ w'.heap.size
  block : ∀ i, i < w.heap.size → ¬ S i → w'.heap[i]? = w.heap[i]?
section
variable {S T : Nat → Prop} {a b c w w' : World}
theorem Fr.below {B : Nat} (h : Fr S w w') (hB : B ≤ w.heap.size) (hS : ∀ i, i < B → ¬ S i) : Below B w w' := ⟨h.os, h.tape, h.output, h.size, fun i hi => h.block i (Nat.lt_of_lt_of_le hi hB) (hS i hi)⟩
theorem Fr.of_below (h : Below w.heap.size w w') : Fr S w w' := ⟨h.os, h.tape, h.output, h.size, fun i hi _ => h.block i hi⟩
theorem Fr.refl (w : World) : Fr S w w := Fr.of_below (Below.refl _ _)
theorem Fr.trans (h : Fr S a b) (k : Fr T b c) (hT : ∀ i, i < a.heap.size → T i → S i) : Fr S a c :=
  ⟨k.os.trans h.os, k.tape.trans h.tape, k.output.trans h.output, Nat.le_trans h.size k.size, fun i hi hs => (k.block i (Nat.lt_of_lt_of_le hi h.size) (fun ht => hs (hT i hi ht))).trans (h.block i hi hs)⟩
theorem Fr.mono (h : Fr S a b) (hST : ∀ i, S i → T i) : Fr T a b := ⟨h.os, h.tape, h.output, h.size, fun i hi hs => h.block i hi fun hx => hs (hST i hx)⟩
theorem Fr.setCell (w : World) (p : Addr) (hp : S p.block) (v : Value) : Fr S w (w.setCell p v) := by
  have h := Below.setCell (p := p) (Below.refl p.block w) (Nat.le_refl _) v
  exact ⟨h.os, h.tape, h.output, h.size, fun i _ hs => Below.heap_setCell w p v i (fun e => hs (e ▸ hp))⟩
theorem Fr.drew (w : World) : Fr S w w.drew := ⟨rfl, rfl, rfl, Nat.le_refl _, fun _ _ _ => rfl⟩
theorem Fr.drewN (w : World) (n : Nat) : Fr S w (w.drewN n) := ⟨rfl, rfl, rfl, Nat.le_refl _, fun _ _ _ => rfl⟩
end
theorem bstep {a b c : World} (h : Below a.heap.size a b) (k : Below b.heap.size b c) : Below a.heap.size a c := h.trans (k.mono h.size)
theorem bbox {w : World} (o : Obj) : Below w.heap.size w (w.alloc o) := (Below.refl _ _).alloc (Nat.le_refl _) o
/-- A thing in memory: it owns the blocks O, and reads besides of those that R names. -/
structure Th where
  P : (Nat → Prop) → (Nat → Prop) → World → Prop
  lt : ∀ {O R w}, P O R w → ∀ x, O x → x < w.heap.size
  keep : ∀ {O R R' w w'}, P O R w → w.heap.size ≤ w'.heap.size → (∀ x, R x → x < w.heap.size) → (∀ x, R x → R' x) → (∀ x, O x ∨ R x → w'.heap[x]? = w.heap[x]?) → P O R' w'
/-- All things of a list, side by side. -/
def All : List Th → (Nat → Prop) → (Nat → Prop) → World → Prop
  | [], O, _, _ => ∀ x, ¬ O x
  | t :: l, O, R, w => ∃ A B, t.P A R w ∧ All l B R w ∧ (∀ x, A x → ¬ B x) ∧ ∀ x, O x ↔ A x ∨ B x
theorem All.lt : ∀ {l : List Th} {O R : Nat → Prop} {w : World}, All l O R w → ∀ x, O x → x < w.heap.size
  | [], _, _, _, h, x, hx => absurd hx (h x)
  | t :: _, _, _, _, ⟨A, B, h1, h2, _, h4⟩, x, hx => by
    rcases (h4 x).1 hx with h | h
    · exact t.lt h1 x h
    · exact All.lt h2 x h
theorem All.keep : ∀ {l : List Th} {O R R' w w'}, All l O R w → w.heap.size ≤ w'.heap.size → (∀ x, R x → x < w.heap.size) → (∀ x, R x → R' x) → (∀ x, O x ∨ R x → w'.heap[x]? = w.heap[x]?) → All l O R' w'
  | [], _, _, _, _, _, h, _, _, _, _ => h
  | t :: _, _, _, _, _, _, ⟨A, B, h1, h2, h3, h4⟩, hs, hr, hR, hb =>
    ⟨A, B, t.keep h1 hs hr hR (fun x hx => hb x (hx.imp (fun h => (h4 x).2 (.inl h)) id)), All.keep h2 hs hr hR (fun x hx => hb x (hx.imp (fun h => (h4 x).2 (.inr h)) id)), h3, h4⟩
theorem All.app : ∀ {l m : List Th} {O R w}, All (l ++ m) O R w ↔ ∃ A B, All l A R w ∧ All m B R w ∧ (∀ x, A x → ¬ B x) ∧ ∀ x, O x ↔ A x ∨ B x
  | [], m, O, R, w => by
    constructor
    · intro h
      exact ⟨fun _ => False, O, fun _ h => h, h, fun _ h => h.elim, fun x => by simp⟩
    · rintro ⟨A, B, h1, h2, -, h4⟩
      have : O = B := funext fun x => propext ⟨fun h => ((h4 x).1 h).resolve_left (h1 x), fun h => (h4 x).2 (.inr h)⟩
      subst this; exact h2
  | t :: l, m, O, R, w => by
    constructor
    · rintro ⟨A, B, h1, h2, h3, h4⟩
      obtain ⟨C, D, k1, k2, k3, k4⟩ := All.app.1 h2
      exact ⟨fun x => A x ∨ C x, D, ⟨A, C, h1, k1, fun x hA hC => h3 x hA ((k4 x).2 (.inl hC)), fun _ => Iff.rfl⟩, k2, fun x hx hD => by
        rcases hx with hx | hx
        · exact h3 x hx ((k4 x).2 (.inr hD))
        · exact k3 x hx hD, fun x => by rw [h4, k4, or_assoc]⟩
    · rintro ⟨A, B, ⟨C, D, h1, h2, h3, h4⟩, k2, k3, k4⟩
      refine ⟨C, fun x => D x ∨ B x, h1, All.app.2 ⟨D, B, h2, k2, fun x hD hB => k3 x ((h4 x).2 (.inr hD)) hB, fun _ => Iff.rfl⟩, fun x hC hx => ?_, fun x => by rw [k4, h4, or_assoc]⟩
      rcases hx with hx | hx
      · exact h3 x hC hx
      · exact k3 x ((h4 x).2 (.inl hC)) hx
theorem All.swap {s t : Th} {l : List Th} {O R w} (h : All (s :: t :: l) O R w) : All (t :: s :: l) O R w := by
  obtain ⟨A, B, h1, ⟨C, D, k1, k2, k3, k4⟩, h3, h4⟩ := h
  refine ⟨C, fun x => A x ∨ D x, k1, ⟨A, D, h1, k2, fun x hA hD => h3 x hA ((k4 x).2 (.inr hD)), fun _ => Iff.rfl⟩, fun x hC hx => ?_, fun x => by rw [h4, k4, or_left_comm]⟩
  rcases hx with hx | hx
  · exact h3 x hx ((k4 x).2 (.inl hC))
  · exact k3 x hC hx
theorem All.cons {t : Th} {l m : List Th} (h : ∀ {O R w}, All l O R w → All m O R w) {O R w} (k : All (t :: l) O R w) : All (t :: m) O R w := by
  obtain ⟨A, B, h1, h2, h3, h4⟩ := k
  exact ⟨A, B, h1, h h2, h3, h4⟩
theorem All.perm {l m : List Th} (p : List.Perm l m) : ∀ {O R w}, All l O R w → All m O R w := by
  induction p with
  | nil => exact id
  | cons t _ ih => exact All.cons ih
  | swap s t l => exact All.swap
  | trans _ _ ih1 ih2 => exact fun h => ih2 (ih1 h)
/-- A thing made of others. -/
def star (l : List Th) : Th := ⟨All l, All.lt, All.keep⟩
/-- Some thing of a family. -/
def exT {α : Type} (f : α → Th) : Th := ⟨fun O R w => ∃ a, (f a).P O R w, fun ⟨a, h⟩ => (f a).lt h, fun ⟨a, h⟩ hs hr hR hb => ⟨a, (f a).keep h hs hr hR hb⟩⟩
/-- A thing, and what is so besides. -/
def puT (p : Prop) (t : Th) : Th := ⟨fun O R w => p ∧ t.P O R w, fun ⟨_, h⟩ => t.lt h, fun ⟨p, h⟩ hs hr hR hb => ⟨p, t.keep h hs hr hR hb⟩⟩
/-- What is known of blocks that no one writes. -/
structure Ro where
  P : (Nat → Prop) → World → Prop
  keep : ∀ {R R' w w'}, P R w → w.heap.size ≤ w'.heap.size → (∀ x, R x → x < w.heap.size) → (∀ x, R x → R' x) → (∀ x, R x → w'.heap[x]? = w.heap[x]?) → P R' w'
def roT (r : Ro) : Th := ⟨fun O R w => (∀ x, ¬ O x) ∧ r.P R w, fun h x hx => absurd hx (h.1 x), fun h hs hr hR hb => ⟨h.1, r.keep h.2 hs hr hR (fun x hx => hb x (.inr hx))⟩⟩
/-- The world w, in which o stands, with these things, all of it new since o. -/
def Hp (o w : World) (l : List Th) : Prop :=
  ∃ O R, All l O R w ∧ (∀ x, O x → o.heap.size ≤ x ∧ ¬ R x) ∧ (∀ x, R x → x < w.heap.size) ∧ (∀ x, x < o.heap.size → R x) ∧ Below o.heap.size o w
/-- What was laid behind w stands. -/
def Stays (w wb w' : World) : Prop := w.heap.size ≤ w'.heap.size ∧ ∀ x, w.heap.size ≤ x → x < wb.heap.size → w'.heap[x]? = wb.heap[x]?
section
variable {o w w' wb : World} {l m : List Th} {t s : Th}
theorem Hp.below (h : Hp o w l) : Below o.heap.size o w := by
  obtain ⟨O, R, -, -, -, -, h⟩ := h; exact h
theorem Hp.nil (ho : Below o.heap.size o w) : Hp o w [] := ⟨fun _ => False, fun x => x < o.heap.size, fun _ h => h, fun _ h => h.elim, fun _ h => Nat.lt_of_lt_of_le h ho.size, fun _ h => h, ho⟩
theorem Hp.map (h : Hp o w l) (k : ∀ {O R w}, All l O R w → All m O R w) : Hp o w m := by
  obtain ⟨O, R, h1, h2⟩ := h
  exact ⟨O, R, k h1, h2⟩
theorem Hp.perm (h : Hp o w l) (p : List.Perm l m) : Hp o w m := h.map (All.perm p)
theorem Hp.bel (h : Hp o w l) (hb : Below w.heap.size w w') : Hp o w' l := by
  obtain ⟨O, R, h1, h2, h3, h4, h5⟩ := h
  have hO := fun x hx => All.lt h1 x hx
  exact ⟨O, R, All.keep h1 hb.size h3 (fun _ h => h) (fun x hx => hb.block x (hx.elim (hO x) (h3 x))), h2, fun x hx => Nat.lt_of_lt_of_le (h3 x hx) hb.size, h4, bstep h5 hb⟩
/-- The thing at a place to the front, and back. -/
theorem pull_perm : ∀ (i : Nat) (l : List Th) (t : Th), l[i]? = some t → List.Perm l (t :: l.eraseIdx i)
  | _, [], _, h => by simp at h
  | 0, x :: r, t, h => by simp at h; subst h; exact List.Perm.refl _
  | i + 1, x :: r, t, h => ((pull_perm i r t (by simpa using h)).cons x).trans (List.Perm.swap ..)
theorem Hp.pull (h : Hp o w l) (i : Nat) {t : Th} (ht : l[i]? = some t) : Hp o w (t :: l.eraseIdx i) := h.perm (pull_perm i l t ht)
theorem push_perm : ∀ (i : Nat) (l : List Th) (t : Th), i ≤ l.length → List.Perm (t :: l) (l.insertIdx i t)
  | 0, l, t, _ => by simp
  | i + 1, [], t, h => by simp at h
  | i + 1, x :: r, t, h => by
    rw [List.insertIdx_succ_cons]
    exact (List.Perm.swap ..).trans ((push_perm i r t (by simpa using h)).cons x)
theorem Hp.ex {α : Type} {f : α → Th} (h : Hp o w (exT f :: l)) : ∃ a, Hp o w (f a :: l) := by
  obtain ⟨O, R, ⟨A, B, ⟨a, h1⟩, h2⟩, h3⟩ := h
  exact ⟨a, O, R, ⟨A, B, h1, h2⟩, h3⟩
theorem Hp.mkEx {α : Type} {f : α → Th} (a : α) (h : Hp o w (f a :: l)) : Hp o w (exT f :: l) := by
  obtain ⟨O, R, ⟨A, B, h1, h2⟩, h3⟩ := h
  exact ⟨O, R, ⟨A, B, ⟨a, h1⟩, h2⟩, h3⟩
theorem Hp.pu {p : Prop} (h : Hp o w (puT p t :: l)) : p ∧ Hp o w (t :: l) := by
  obtain ⟨O, R, ⟨A, B, ⟨a, h1⟩, h2⟩, h3⟩ := h
  exact ⟨a, O, R, ⟨A, B, h1, h2⟩, h3⟩
theorem Hp.mkPu {p : Prop} (hp : p) (h : Hp o w (t :: l)) : Hp o w (puT p t :: l) := by
  obtain ⟨O, R, ⟨A, B, h1, h2⟩, h3⟩ := h
  exact ⟨O, R, ⟨A, B, ⟨hp, h1⟩, h2⟩, h3⟩
theorem Hp.open (h : Hp o w (star m :: l)) : Hp o w (m ++ l) := h.map fun ⟨A, B, h1, h2, h3, h4⟩ => All.app.2 ⟨A, B, h1, h2, h3, h4⟩
theorem Hp.shut (h : Hp o w (m ++ l)) : Hp o w (star m :: l) := h.map fun h => All.app.1 h
theorem Hp.drop (h : Hp o w (t :: l)) : Hp o w l := by
  obtain ⟨O, R, ⟨A, B, h1, h2, h3, h4⟩, h5, h6, h7, h8⟩ := h
  exact ⟨B, R, h2, fun x hx => h5 x ((h4 x).2 (.inr hx)), h6, h7, h8⟩
theorem Hp.push (h : Hp o w (t :: l)) (i : Nat) : Hp o w (l.insertIdx i t) := by
  by_cases hi : i ≤ l.length
  · exact h.perm (push_perm i l t hi)
  · rw [List.insertIdx_of_length_lt (by omega)]
    exact h.drop
theorem Hp.dropAt (h : Hp o w l) (i : Nat) {t : Th} (ht : l[i]? = some t) : Hp o w (l.eraseIdx i) := (h.pull i ht).drop
/-- What a thing says of the world. -/
theorem Hp.say (h : Hp o w (t :: l)) {p : Prop} (k : ∀ {O R}, t.P O R w → (∀ x, O x → o.heap.size ≤ x ∧ ¬ R x) → (∀ x, R x → x < w.heap.size) → p) : p := by
  obtain ⟨O, R, ⟨A, B, h1, h2, h3, h4⟩, h5, h6, h7, h8⟩ := h
  exact k h1 (fun x hx => h5 x ((h4 x).2 (.inl hx))) h6
/-- The first thing moved: it owns what it did, and new blocks; what it read of, and some of what it owned, and new blocks may be read by others from now on. -/
def Mvd (A R : Nat → Prop) (w w' : World) (ts : List Th) : Prop :=
  ∃ A' R', All ts A' R' w' ∧ Fr A w w' ∧ (∀ x, A' x → (A x ∨ w.heap.size ≤ x) ∧ ¬ R' x) ∧ (∀ x, R x → R' x) ∧ (∀ x, R' x → (R x ∨ A x ∨ w.heap.size ≤ x) ∧ x < w'.heap.size)
theorem Hp.moved' {O R A B : Nat → Prop} (h1 : t.P A R w) (h2 : All l B R w) (h3 : ∀ x, A x → ¬ B x) (h4 : ∀ x, O x ↔ A x ∨ B x) (h5 : ∀ x, O x → o.heap.size ≤ x ∧ ¬ R x) (h6 : ∀ x, R x → x < w.heap.size) (h7 : ∀ x, x < o.heap.size → R x) (h8 : Below o.heap.size o w)
    (hw : Below w.heap.size w wb) {ts : List Th} (k : Mvd A R wb w' ts) : Hp o w' (ts ++ l) ∧ Stays w wb w' := by
  have hA := fun x hx => t.lt h1 x hx
  have hB := fun x hx => All.lt h2 x hx
  obtain ⟨A', R', g1, g2, g3, g4, g5⟩ := k
  have hbl : ∀ x, x < w.heap.size → ¬ A x → w'.heap[x]? = w.heap[x]? := fun x hx hn => (g2.block x (Nat.lt_of_lt_of_le hx hw.size) hn).trans (hw.block x hx)
  have hsz : w.heap.size ≤ w'.heap.size := Nat.le_trans hw.size g2.size
  have hos : o.heap.size ≤ w.heap.size := h8.size
  refine ⟨⟨fun x => A' x ∨ B x, R', All.app.2 ⟨A', B, g1, All.keep h2 hsz h6 g4 (fun x hx => ?_), fun x hx hb => ?_, fun _ => Iff.rfl⟩, fun x hx => ?_, fun x hx => (g5 x hx).2, fun x hx => g4 x (h7 x hx), ?_⟩, hsz, fun x hx hx' => g2.block x hx' (fun hxA => by have := hA x hxA; omega)⟩
  · rcases hx with hx | hx
    · exact hbl x (hB x hx) (fun ha => h3 x ha hx)
    · exact hbl x (h6 x hx) (fun ha => (h5 x ((h4 x).2 (.inl ha))).2 hx)
  · rcases (g3 x hx).1 with h | h
    · exact h3 x h hb
    · have := hB x hb; have := hw.size; omega
  · rcases hx with hx | hx
    · refine ⟨?_, (g3 x hx).2⟩
      rcases (g3 x hx).1 with h | h
      · exact (h5 x ((h4 x).2 (.inl h))).1
      · have := hw.size; omega
    · refine ⟨(h5 x ((h4 x).2 (.inr hx))).1, fun hr => ?_⟩
      rcases (g5 x hr).1 with h | h | h
      · exact (h5 x ((h4 x).2 (.inr hx))).2 h
      · exact h3 x h hx
      · have := hB x hx; have := hw.size; omega
  · refine ⟨g2.os.trans (hw.os.trans h8.os), g2.tape.trans (hw.tape.trans h8.tape), g2.output.trans (hw.output.trans h8.output), Nat.le_trans hos hsz, fun x hx => ?_⟩
    have hn : ¬ A x := fun ha => by have := (h5 x ((h4 x).2 (.inl ha))).1; omega
    exact (hbl x (Nat.lt_of_lt_of_le hx hos) hn).trans (h8.block x hx)
theorem Hp.moved (h : Hp o w (t :: l)) (hw : Below w.heap.size w wb) {ts : List Th} (k : ∀ {A R}, t.P A R wb → (∀ x, A x → x < w.heap.size) → (∀ x, R x → x < w.heap.size) → (∀ x, A x → ¬ R x) → Mvd A R wb w' ts) : Hp o w' (ts ++ l) ∧ Stays w wb w' := by
  obtain ⟨O, R, ⟨A, B, h1, h2, h3, h4⟩, h5, h6, h7, h8⟩ := h
  have hA := fun x hx => t.lt h1 x hx
  have k1 := t.keep h1 hw.size h6 (fun _ h => h) (fun x hx => hw.block x (hx.elim (hA x) (h6 x)))
  exact Hp.moved' h1 h2 h3 h4 h5 h6 h7 h8 hw (k k1 hA h6 (fun x hx => (h5 x ((h4 x).2 (.inl hx))).2))
/-- A call upon the first thing. -/
theorem Hp.call {P : Program} {f : FuncId} {args : Array Value} {α : Type} {X : α → Ending → Prop} {ts : α → List Th} (h : Hp o w (t :: l)) (hw : Below w.heap.size w wb)
    (k : ∀ {A R : Nat → Prop}, t.P A R wb → (∀ x, A x → x < w.heap.size) → (∀ x, R x → x < w.heap.size) → (∀ x, A x → ¬ R x) → Calls P f args wb fun e w' => ∃ a, X a e ∧ Mvd A R wb w' (ts a)) :
    Calls P f args wb fun e w' => ∃ a, X a e ∧ Hp o w' (ts a ++ l) ∧ Stays w wb w' := by
  obtain ⟨O, R, ⟨A, B, h1, h2, h3, h4⟩, h5, h6, h7, h8⟩ := h
  have hA := fun x hx => t.lt h1 x hx
  have k1 := t.keep h1 hw.size h6 (fun _ h => h) (fun x hx => hw.block x (hx.elim (hA x) (h6 x)))
  refine (k k1 hA h6 (fun x hx => (h5 x ((h4 x).2 (.inl hx))).2)).mono ?_
  rintro e w' ⟨a, hX, hM⟩
  exact ⟨a, hX, Hp.moved' h1 h2 h3 h4 h5 h6 h7 h8 hw hM⟩
theorem Hp.call1 {P : Program} {f : FuncId} {args : Array Value} {X : Ending → Prop} {ts : List Th} (h : Hp o w (t :: l)) (hw : Below w.heap.size w wb)
    (k : ∀ {A R : Nat → Prop}, t.P A R wb → (∀ x, A x → x < w.heap.size) → (∀ x, R x → x < w.heap.size) → (∀ x, A x → ¬ R x) → Calls P f args wb fun e w' => X e ∧ Mvd A R wb w' ts) :
    Calls P f args wb fun e w' => X e ∧ Hp o w' (ts ++ l) ∧ Stays w wb w' :=
  (Hp.call (α := Unit) (X := fun _ => X) (ts := fun _ => ts) h hw (fun a b c d => (k a b c d).mono fun _ _ h => ⟨(), h⟩)).mono fun _ _ ⟨_, h⟩ => h
/-- A call that makes memory alone. -/
theorem Hp.read {P : Program} {f : FuncId} {args : Array Value} {X : Ending → World → Prop} (h : Hp o w l) (hw : Below w.heap.size w wb) (k : Calls P f args wb fun e w' => X e w' ∧ Below wb.heap.size wb w') :
    Calls P f args wb fun e w' => X e w' ∧ Hp o w' l ∧ Stays w wb w' :=
  k.mono fun _ _ ⟨a, b⟩ => ⟨a, h.bel (bstep hw b), Nat.le_trans hw.size b.size, fun x _ hx => b.block x hx⟩
/-- One thing for one thing, nothing given away. -/
theorem mvd1 {A R A' : Nat → Prop} {s : Th} (hs : s.P A' R w') (hf : Fr A w w') (hR : ∀ x, R x → x < w.heap.size) (hA : ∀ x, A x → ¬ R x) (hO : ∀ x, A' x → A x ∨ w.heap.size ≤ x) : Mvd A R w w' [s] :=
  ⟨A', R, ⟨A', fun _ => False, hs, fun _ h => h, fun _ _ h => h, fun x => by simp⟩, hf, fun x hx => ⟨hO x hx, fun hr => by
    rcases hO x hx with h | h
    · exact hA x h hr
    · have := hR x hr; omega⟩, fun _ h => h, fun x hx => ⟨.inl hx, Nat.lt_of_lt_of_le (hR x hx) hf.size⟩⟩
/-- New things. -/
theorem Hp.add (h : Hp o w l) (hw : Below w.heap.size w w') {ts : List Th} (k : ∀ {R : Nat → Prop}, (∀ x, R x → x < w.heap.size) → ∃ A' R', All ts A' R' w' ∧ (∀ x, A' x → w.heap.size ≤ x ∧ ¬ R' x) ∧ (∀ x, R x → R' x) ∧ (∀ x, R' x → (R x ∨ w.heap.size ≤ x) ∧ x < w'.heap.size)) : Hp o w' (ts ++ l) := by
  have h0 : Hp o w (star [] :: l) := Hp.shut h
  refine (h0.moved (Below.refl _ _) (w' := w') (ts := ts) fun {A R} h1 h2 h3 h4 => ?_).1
  obtain ⟨A', R', g1, g2, g3, g4⟩ := k h3
  exact ⟨A', R', g1, Fr.of_below hw, fun x hx => ⟨.inr (g2 x hx).1, (g2 x hx).2⟩, g3, fun x hx => ⟨(g4 x hx).1.imp id .inr, (g4 x hx).2⟩⟩
theorem Hp.ro (h : Hp o w (t :: l)) {r : Ro} (k : ∀ {O R}, t.P O R w → (∀ x, R x → x < w.heap.size) → r.P R w) : Hp o w (roT r :: t :: l) := by
  obtain ⟨O, R, ⟨A, B, h1, h2, h3, h4⟩, h5, h6, h7, h8⟩ := h
  exact ⟨O, R, ⟨fun _ => False, O, ⟨fun _ h => h, k h1 h6⟩, ⟨A, B, h1, h2, h3, h4⟩, fun _ h => h.elim, fun x => by simp⟩, h5, h6, h7, h8⟩
theorem Stays.cell (h : Stays w wb w') {x i : Nat} {v : Value} (hx : w.heap.size ≤ x) (hb : wb.cell? ⟨x, i, none⟩ = some v) : w'.cell? ⟨x, i, none⟩ = some v := by
  have := h.2 x hx (World.block_lt_of_cell? wb _ hb)
  simp only [World.cell?, this] at hb ⊢
  exact hb
theorem Stays.frozen (h : Stays w wb w') {x i : Nat} (hx : w.heap.size ≤ x) (hl : x < wb.heap.size) : w'.frozen? ⟨x, i, none⟩ = wb.frozen? ⟨x, i, none⟩ := World.frozen?_of_block (a := ⟨x, i, none⟩) (h.2 x hx hl)
end
/-- A block of the caller's own, whose cells are known. -/
def cellsT (b : Nat) (vs : List Value) : Th :=
  ⟨fun O _ w => (∀ x, O x ↔ x = b) ∧ b < w.heap.size ∧ (∀ i (h : i < vs.length), w.cell? ⟨b, i, none⟩ = some vs[i]) ∧ ∀ i, i < vs.length → w.frozen? ⟨b, i, none⟩ = false,
   fun h x hx => by rw [(h.1 x).1 hx]; exact h.2.1,
   fun {O R R' w w'} h hs _ _ hb => by
    have e := hb b (.inl ((h.1 b).2 rfl))
    refine ⟨h.1, Nat.lt_of_lt_of_le h.2.1 hs, fun i hi => ?_, fun i hi => ?_⟩
    · have := h.2.2.1 i hi
      simp only [World.cell?, e] at this ⊢
      exact this
    · exact (World.frozen?_of_block (a := ⟨b, i, none⟩) e).trans (h.2.2.2 i hi)⟩
end Go.Proofs.Ytjfcdkmnccafaaa.Sp
