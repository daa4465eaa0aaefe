/- Things in memory side by side: what each owns, what all may read, and what a call upon one of them leaves of the others. Of no program, no condition. -/
import Derived.WalkKit
import Derived.ProofKit
import Derived.OpenShut
import Derived.WalkSmall
import Derived.WalkSpells
import Derived.WalkLawsBesides
import Derived.Outline
import Derived.Lib.Hide
import Derived.Deep.RegionWith
import Derived.Deep.LoopGhost
import Derived.OwnWalk
import Derived.IntWalk
import Derived.Laws.AppendOwn
import Derived.Laws.IdiomStrings
import Derived.Lib.Strings
import Derived.Maps.OwnSet
import Derived.Deep.QuietTactic
import Derived.BigQuiet
import Derived.Maps.AppendAt
import Derived.Laws.OwnMore
namespace Go.Proofs.Ytnmncjeplfkdpaa.Sp
open Go.ChangeShapes Go.WideShapes Go.ChangeAt Go.RowKit
/-- Of w all blocks stand in w' but those that S names. -/
structure Fr (S : Nat → Prop) (w w' : World) : Prop where
  os : w'.os = w.os
  tape : w'.tape = w.tape
  output : w'.output = w.output
  size : w.heap.size ≤ w'.heap.size
  block : ∀ i, i < w.heap.size → ¬ S i → w'.heap[i]? = w.heap[i]?
section
variable {S T : Nat → Prop} {a b c w w' : World}
theorem Fr.below {B : Nat} (h : Fr S w w') (hB : B ≤ w.heap.size) (hS : ∀ i, i < B → ¬ S i) : Below B w w' := ⟨h.os, h.tape, h.output, h.size, fun i hi => h.block i (Nat.lt_of_lt_of_le hi hB) (hS i hi)⟩
theorem Fr.of_below (h : Below w.heap.size w w') : Fr S w w' := ⟨h.os, h.tape, h.output, h.size, fun i hi _ => h.block i hi⟩
theorem Fr.refl (w : World) : Fr S w w := Fr.of_below (Below.refl _ _)
theorem Fr.trans (h : Fr S a b) (k : Fr T b c) (hT : ∀ i, i < a.heap.size → T i → S i) : Fr S a c :=
  ⟨k.os.trans h.os, k.tape.trans h.tape, k.output.trans h.output, Nat.le_trans h.size k.size, fun i hi hs => (k.block i (Nat.lt_of_lt_of_le hi h.size) (fun ht => hs (hT i hi ht))).trans (h.block i hi hs)⟩
theorem Fr.mono (h : Fr S a b) (hST : ∀ i, S i → T i) : Fr T a b := ⟨h.os, h.tape, h.output, h.size, fun i hi hs => h.block i hi fun hx => hs (hST i hx)⟩
theorem Fr.setCell (w : World) (p : Addr) (hp : S p.block) (v : Value) : Fr S w (w.setCell p v) := by
  have h := Below.setCell (p := p) (Below.refl p.block w) (Nat.le_refl _) v
  exact ⟨h.os, h.tape, h.output, h.size, fun i _ hs => Below.heap_setCell w p v i (fun e => hs (e ▸ hp))⟩
theorem Fr.drew (w : World) : Fr S w w.drew := ⟨rfl, rfl, rfl, Nat.le_refl _, fun _ _ _ => rfl⟩
theorem Fr.drewN (w : World) (n : Nat) : Fr S w (w.drewN n) := ⟨rfl, rfl, rfl, Nat.le_refl _, fun _ _ _ => rfl⟩
end
theorem bstep {a b c : World} (h : Below a.heap.size a b) (k : Below b.heap.size b c) : Below a.heap.size a c := h.trans (k.mono h.size)
theorem bbox {w : World} (o : Obj) : Below w.heap.size w (w.alloc o) := (Below.refl _ _).alloc (Nat.le_refl _) o
/-- A thing in memory: it owns the blocks O, and reads besides of those that R names. -/
structure Th where
  P : (Nat → Prop) → (Nat → Prop) → World → Prop
  lt : ∀ {O R w}, P O R w → ∀ x, O x → x < w.heap.size
  keep : ∀ {O R R' w w'}, P O R w → w.heap.size ≤ w'.heap.size → (∀ x, R x → x < w.heap.size) → (∀ x, R x → R' x) → (∀ x, O x ∨ R x → w'.heap[x]? = w.heap[x]?) → P O R' w'
/-- All things of a list, side by side. -/
def All : List Th → (Nat → Prop) → (Nat → Prop) → World → Prop
  | [], O, _, _ => ∀ x, ¬ O x
  | t :: l, O, R, w => ∃ A B, t.P A R w ∧ All l B R w ∧ (∀ x, A x → ¬ B x) ∧ ∀ x, O x ↔ A x ∨ B x
theorem All.lt : ∀ {l : List Th} {O R : Nat → Prop} {w : World}, All l O R w → ∀ x, O x → x < w.heap.size
  | [], _, _, _, h, x, hx => absurd hx (h x)
  | t :: _, _, _, _, ⟨A, B, h1, h2, _, h4⟩, x, hx => by
    rcases (h4 x).1 hx with h | h
    · exact t.lt h1 x h
    · exact All.lt h2 x h
theorem All.keep : ∀ {l : List Th} {O R R' w w'}, All l O R w → w.heap.size ≤ w'.heap.size → (∀ x, R x → x < w.heap.size) → (∀ x, R x → R' x) → (∀ x, O x ∨ R x → w'.heap[x]? = w.heap[x]?) → All l O R' w'
  | [], _, _, _, _, _, h, _, _, _, _ => h
  | t :: _, _, _, _, _, _, ⟨A, B, h1, h2, h3, h4⟩, hs, hr, hR, hb =>
    ⟨A, B, t.keep h1 hs hr hR (fun x hx => hb x (hx.imp (fun h => (h4 x).2 (.inl h)) id)), All.keep h2 hs hr hR (fun x hx => hb x (hx.imp (fun h => (h4 x).2 (.inr h)) id)), h3, h4⟩
theorem All.app : ∀ {l m : List Th} {O R w}, All (l ++ m) O R w ↔ ∃ A B, All l A R w ∧ All m B R w ∧ (∀ x, A x → ¬ B x) ∧ ∀ x, O x ↔ A x ∨ B x
  | [], m, O, R, w => by
    constructor
    · intro h
      exact ⟨fun _ => False, O, fun _ h => h, h, fun _ h => h.elim, fun x => by simp⟩
    · rintro ⟨A, B, h1, h2, -, h4⟩
      have : O = B := funext fun x => propext ⟨fun h => ((h4 x).1 h).resolve_left (h1 x), fun h => (h4 x).2 (.inr h)⟩
      subst this; exact h2
  | t :: l, m, O, R, w => by
    constructor
    · rintro ⟨A, B, h1, h2, h3, h4⟩
      obtain ⟨C, D, k1, k2, k3, k4⟩ := All.app.1 h2
      exact ⟨fun x => A x ∨ C x, D, ⟨A, C, h1, k1, fun x hA hC => h3 x hA ((k4 x).2 (.inl hC)), fun _ => Iff.rfl⟩, k2, fun x hx hD => by
        rcases hx with hx | hx
        · exact h3 x hx ((k4 x).2 (.inr hD))
        · exact k3 x hx hD, fun x => by rw [h4, k4, or_assoc]⟩
    · rintro ⟨A, B, ⟨C, D, h1, h2, h3, h4⟩, k2, k3, k4⟩
      refine ⟨C, fun x => D x ∨ B x, h1, All.app.2 ⟨D, B, h2, k2, fun x hD hB => k3 x ((h4 x).2 (.inr hD)) hB, fun _ => Iff.rfl⟩, fun x hC hx => ?_, fun x => by rw [k4, h4, or_assoc]⟩
      rcases hx with hx | hx
      · exact h3 x hC hx
      · exact k3 x ((h4 x).2 (.inl hC)) hx
theorem All.swap {s t : Th} {l : List Th} {O R w} (h : All (s :: t :: l) O R w) : All (t :: s :: l) O R w := by
  obtain ⟨A, B, h1, ⟨C, D, k1, k2, k3, k4⟩, h3, h4⟩ := h
  refine ⟨C, fun x => A x ∨ D x, k1, ⟨A, D, h1, k2, fun x hA hD => h3 x hA ((k4 x).2 (.inr hD)), fun _ => Iff.rfl⟩, fun x hC hx => ?_, fun x => by rw [h4, k4, or_left_comm]⟩
  rcases hx with hx | hx
  · exact h3 x hx ((k4 x).2 (.inl hC))
  · exact k3 x hC hx
theorem All.cons {t : Th} {l m : List Th} (h : ∀ {O R w}, All l O R w → All m O R w) {O R w} (k : All (t :: l) O R w) : All (t :: m) O R w := by
  obtain ⟨A, B, h1, h2, h3, h4⟩ := k
  exact ⟨A, B, h1, h h2, h3, h4⟩
theorem All.perm {l m : List Th} (p : List.Perm l m) : ∀ {O R w}, All l O R w → All m O R w := by
  induction p with
  | nil => exact id
  | cons t _ ih => exact All.cons ih
  | swap s t l => exact All.swap
  | trans _ _ ih1 ih2 => exact fun h => ih2 (ih1 h)
/-- A thing made of others. -/
def star (l : List Th) : Th := ⟨All l, All.lt, All.keep⟩
/-- Some thing of a family. -/
def exT {α : Type} (f : α → Th) : Th := ⟨fun O R w => ∃ a, (f a).P O R w, fun ⟨a, h⟩ => (f a).lt h, fun ⟨a, h⟩ hs hr hR hb => ⟨a, (f a).keep h hs hr hR hb⟩⟩
/-- A thing, and what is so besides. -/
def puT (p : Prop) (t : Th) : Th := ⟨fun O R w => p ∧ t.P O R w, fun ⟨_, h⟩ => t.lt h, fun ⟨p, h⟩ hs hr hR hb => ⟨p, t.keep h hs hr hR hb⟩⟩
/-- What is known of blocks that no one writes. -/
structure Ro where
  P : (Nat → Prop) → World → Prop
  keep : ∀ {R R' w w'}, P R w → w.heap.size ≤ w'.heap.size → (∀ x, R x → x < w.heap.size) → (∀ x, R x → R' x) → (∀ x, R x → w'.heap[x]? = w.heap[x]?) → P R' w'
def roT (r : Ro) : Th := ⟨fun O R w => (∀ x, ¬ O x) ∧ r.P R w, fun h x hx => absurd hx (h.1 x), fun h hs hr hR hb => ⟨h.1, r.keep h.2 hs hr hR (fun x hx => hb x (.inr hx))⟩⟩
/-- The world w, in which o stands, with these things, all of it new since o. -/
def Hp (o w : World) (l : List Th) : Prop :=
  ∃ O R, All l O R w ∧ (∀ x, O x → o.heap.size ≤ x ∧ ¬ R x) ∧ (∀ x, R x → x < w.heap.size) ∧ (∀ x, x < o.heap.size → R x) ∧ Below o.heap.size o w
/-- What was laid behind w stands. -/
def Stays (w wb w' : World) : Prop := w.heap.size ≤ w'.heap.size ∧ ∀ x, w.heap.size ≤ x → x < wb.heap.size → w'.heap[x]? = wb.heap[x]?
section
variable {o w w' wb : World} {l m : List Th} {t s : Th}
theorem Hp.below (h : Hp o w l) : Below o.heap.size o w := by
  obtain ⟨O, R, -, -, -, -, h⟩ := h; exact h
theorem Hp.nil (ho : Below o.heap.size o w) : Hp o w [] := ⟨fun _ => False, fun x => x < o.heap.size, fun _ h => h, fun _ h => h.elim, fun _ h => Nat.lt_of_lt_of_le h ho.size, fun _ h => h, ho⟩
theorem Hp.map (h : Hp o w l) (k : ∀ {O R w}, All l O R w → All m O R w) : Hp o w m := by
  obtain ⟨O, R, h1, h2⟩ := h
  exact ⟨O, R, k h1, h2⟩
theorem Hp.perm (h : Hp o w l) (p : List.Perm l m) : Hp o w m := h.map (All.perm p)
theorem Hp.bel (h : Hp o w l) (hb : Below w.heap.size w w') : Hp o w' l := by
  obtain ⟨O, R, h1, h2, h3, h4, h5⟩ := h
  have hO := fun x hx => All.lt h1 x hx
  exact ⟨O, R, All.keep h1 hb.size h3 (fun _ h => h) (fun x hx => hb.block x (hx.elim (hO x) (h3 x))), h2, fun x hx => Nat.lt_of_lt_of_le (h3 x hx) hb.size, h4, bstep h5 hb⟩
/-- The thing at a place to the front, and back. -/
theorem pull_perm : ∀ (i : Nat) (l : List Th) (t : Th), l[i]? = some t → List.Perm l (t :: l.eraseIdx i)
  | _, [], _, h => by simp at h
  | 0, x :: r, t, h => by simp at h; subst h; exact List.Perm.refl _
  | i + 1, x :: r, t, h => ((pull_perm i r t (by simpa using h)).cons x).trans (List.Perm.swap ..)
theorem Hp.pull (h : Hp o w l) (i : Nat) {t : Th} (ht : l[i]? = some t) : Hp o w (t :: l.eraseIdx i) := h.perm (pull_perm i l t ht)
theorem push_perm : ∀ (i : Nat) (l : List Th) (t : Th), i ≤ l.length → List.Perm (t :: l) (l.insertIdx i t)
  | 0, l, t, _ => by simp
  | i + 1, [], t, h => by simp at h
  | i + 1, x :: r, t, h => by
    rw [List.insertIdx_succ_cons]
    exact (List.Perm.swap ..).trans ((push_perm i r t (by simpa using h)).cons x)
theorem Hp.ex {α : Type} {f : α → Th} (h : Hp o w (exT f :: l)) : ∃ a, Hp o w (f a :: l) := by
  obtain ⟨O, R, ⟨A, B, ⟨a, h1⟩, h2⟩, h3⟩ := h
  exact ⟨a, O, R, ⟨A, B, h1, h2⟩, h3⟩
theorem Hp.mkEx {α : Type} {f : α → Th} (a : α) (h : Hp o w (f a :: l)) : Hp o w (exT f :: l) := by
  obtain ⟨O, R, ⟨A, B, h1, h2⟩, h3⟩ := h
  exact ⟨O, R, ⟨A, B, ⟨a, h1⟩, h2⟩, h3⟩
theorem Hp.pu {p : Prop} (h : Hp o w (puT p t :: l)) : p ∧ Hp o w (t :: l) := by
  obtain ⟨O, R, ⟨A, B, ⟨a, h1⟩, h2⟩, h3⟩ := h
  exact ⟨a, O, R, ⟨A, B, h1, h2⟩, h3⟩
theorem Hp.mkPu {p : Prop} (hp : p) (h : Hp o w (t :: l)) : Hp o w (puT p t :: l) := by
  obtain ⟨O, R, ⟨A, B, h1, h2⟩, h3⟩ := h
  exact ⟨O, R, ⟨A, B, ⟨hp, h1⟩, h2⟩, h3⟩
theorem Hp.open (h : Hp o w (star m :: l)) : Hp o w (m ++ l) := h.map fun ⟨A, B, h1, h2, h3, h4⟩ => All.app.2 ⟨A, B, h1, h2, h3, h4⟩
theorem Hp.shut (h : Hp o w (m ++ l)) : Hp o w (star m :: l) := h.map fun h => All.app.1 h
theorem Hp.drop (h : Hp o w (t :: l)) : Hp o w l := by
  obtain ⟨O, R, ⟨A, B, h1, h2, h3, h4⟩, h5, h6, h7, h8⟩ := h
  exact ⟨B, R, h2, fun x hx => h5 x ((h4 x).2 (.inr hx)), h6, h7, h8⟩
theorem Hp.push (h : Hp o w (t :: l)) (i : Nat) : Hp o w (l.insertIdx i t) := by
  by_cases hi : i ≤ l.length
  · exact h.perm (push_perm i l t hi)
  · rw [List.insertIdx_of_length_lt (by omega)]
    exact h.drop
theorem Hp.dropAt (h : Hp o w l) (i : Nat) {t : Th} (ht : l[i]? = some t) : Hp o w (l.eraseIdx i) := (h.pull i ht).drop
/-- What a thing says of the world. -/
theorem Hp.say (h : Hp o w (t :: l)) {p : Prop} (k : ∀ {O R}, t.P O R w → (∀ x, O x → o.heap.size ≤ x ∧ ¬ R x) → (∀ x, R x → x < w.heap.size) → p) : p := by
  obtain ⟨O, R, ⟨A, B, h1, h2, h3, h4⟩, h5, h6, h7, h8⟩ := h
  exact k h1 (fun x hx => h5 x ((h4 x).2 (.inl hx))) h6
/-- The first thing moved: it owns what it did, and new blocks; what it read of, and some of what it owned, and new blocks may be read by others from now on. -/
def Mvd (A R : Nat → Prop) (w w' : World) (ts : List Th) : Prop :=
  ∃ A' R', All ts A' R' w' ∧ Fr A w w' ∧ (∀ x, A' x → (A x ∨ w.heap.size ≤ x) ∧ ¬ R' x) ∧ (∀ x, R x → R' x) ∧ (∀ x, R' x → (R x ∨ A x ∨ w.heap.size ≤ x) ∧ x < w'.heap.size)
theorem Hp.moved' {O R A B : Nat → Prop} (h1 : t.P A R w) (h2 : All l B R w) (h3 : ∀ x, A x → ¬ B x) (h4 : ∀ x, O x ↔ A x ∨ B x) (h5 : ∀ x, O x → o.heap.size ≤ x ∧ ¬ R x) (h6 : ∀ x, R x → x < w.heap.size) (h7 : ∀ x, x < o.heap.size → R x) (h8 : Below o.heap.size o w)
    (hw : Below w.heap.size w wb) {ts : List Th} (k : Mvd A R wb w' ts) : Hp o w' (ts ++ l) ∧ Stays w wb w' := by
  have hA := fun x hx => t.lt h1 x hx
  have hB := fun x hx => All.lt h2 x hx
  obtain ⟨A', R', g1, g2, g3, g4, g5⟩ := k
  have hbl : ∀ x, x < w.heap.size → ¬ A x → w'.heap[x]? = w.heap[x]? := fun x hx hn => (g2.block x (Nat.lt_of_lt_of_le hx hw.size) hn).trans (hw.block x hx)
  have hsz : w.heap.size ≤ w'.heap.size := Nat.le_trans hw.size g2.size
  have hos : o.heap.size ≤ w.heap.size := h8.size
  refine ⟨⟨fun x => A' x ∨ B x, R', All.app.2 ⟨A', B, g1, All.keep h2 hsz h6 g4 (fun x hx => ?_), fun x hx hb => ?_, fun _ => Iff.rfl⟩, fun x hx => ?_, fun x hx => (g5 x hx).2, fun x hx => g4 x (h7 x hx), ?_⟩, hsz, fun x hx hx' => g2.block x hx' (fun hxA => by have := hA x hxA; omega)⟩
  · rcases hx with hx | hx
    · exact hbl x (hB x hx) (fun ha => h3 x ha hx)
    · exact hbl x (h6 x hx) (fun ha => (h5 x ((h4 x).2 (.inl ha))).2 hx)
  · rcases (g3 x hx).1 with h | h
    · exact h3 x h hb
    · have := hB x hb; have := hw.size; omega
  · rcases hx with hx | hx
    · refine ⟨?_, (g3 x hx).2⟩
      rcases (g3 x hx).1 with h | h
      · exact (h5 x ((h4 x).2 (.inl h))).1
      · have := hw.size; omega
    · refine ⟨(h5 x ((h4 x).2 (.inr hx))).1, fun hr => ?_⟩
      rcases (g5 x hr).1 with h | h | h
      · exact (h5 x ((h4 x).2 (.inr hx))).2 h
      · exact h3 x h hx
      · have := hB x hx; have := hw.size; omega
  · refine ⟨g2.os.trans (hw.os.trans h8.os), g2.tape.trans (hw.tape.trans h8.tape), g2.output.trans (hw.output.trans h8.output), Nat.le_trans hos hsz, fun x hx => ?_⟩
    have hn : ¬ A x := fun ha => by have := (h5 x ((h4 x).2 (.inl ha))).1; omega
    exact (hbl x (Nat.lt_of_lt_of_le hx hos) hn).trans (h8.block x hx)
theorem Hp.moved (h : Hp o w (t :: l)) (hw : Below w.heap.size w wb) {ts : List Th} (k : ∀ {A R}, t.P A R wb → (∀ x, A x → x < w.heap.size) → (∀ x, R x → x < w.heap.size) → (∀ x, A x → ¬ R x) → Mvd A R wb w' ts) : Hp o w' (ts ++ l) ∧ Stays w wb w' := by
  obtain ⟨O, R, ⟨A, B, h1, h2, h3, h4⟩, h5, h6, h7, h8⟩ := h
  have hA := fun x hx => t.lt h1 x hx
  have k1 := t.keep h1 hw.size h6 (fun _ h => h) (fun x hx => hw.block x (hx.elim (hA x) (h6 x)))
  exact Hp.moved' h1 h2 h3 h4 h5 h6 h7 h8 hw (k k1 hA h6 (fun x hx => (h5 x ((h4 x).2 (.inl hx))).2))
/-- A call upon the first thing. -/
theorem Hp.call {P : Program} {f : FuncId} {args : Array Value} {α : Type} {X : α → Ending → Prop} {ts : α → List Th} (h : Hp o w (t :: l)) (hw : Below w.heap.size w wb)
    (k : ∀ {A R : Nat → Prop}, t.P A R wb → (∀ x, A x → x < w.heap.size) → (∀ x, R x → x < w.heap.size) → (∀ x, A x → ¬ R x) → Calls P f args wb fun e w' => ∃ a, X a e ∧ Mvd A R wb w' (ts a)) :
    Calls P f args wb fun e w' => ∃ a, X a e ∧ Hp o w' (ts a ++ l) ∧ Stays w wb w' := by
  obtain ⟨O, R, ⟨A, B, h1, h2, h3, h4⟩, h5, h6, h7, h8⟩ := h
  have hA := fun x hx => t.lt h1 x hx
  have k1 := t.keep h1 hw.size h6 (fun _ h => h) (fun x hx => hw.block x (hx.elim (hA x) (h6 x)))
  refine (k k1 hA h6 (fun x hx => (h5 x ((h4 x).2 (.inl hx))).2)).mono ?_
  rintro e w' ⟨a, hX, hM⟩
  exact ⟨a, hX, Hp.moved' h1 h2 h3 h4 h5 h6 h7 h8 hw hM⟩
theorem Hp.call1 {P : Program} {f : FuncId} {args : Array Value} {X : Ending → Prop} {ts : List Th} (h : Hp o w (t :: l)) (hw : Below w.heap.size w wb)
    (k : ∀ {A R : Nat → Prop}, t.P A R wb → (∀ x, A x → x < w.heap.size) → (∀ x, R x → x < w.heap.size) → (∀ x, A x → ¬ R x) → Calls P f args wb fun e w' => X e ∧ Mvd A R wb w' ts) :
    Calls P f args wb fun e w' => X e ∧ Hp o w' (ts ++ l) ∧ Stays w wb w' :=
  (Hp.call (α := Unit) (X := fun _ => X) (ts := fun _ => ts) h hw (fun a b c d => (k a b c d).mono fun _ _ h => ⟨(), h⟩)).mono fun _ _ ⟨_, h⟩ => h
/-- A call that makes memory alone. -/
theorem Hp.read {P : Program} {f : FuncId} {args : Array Value} {X : Ending → World → Prop} (h : Hp o w l) (hw : Below w.heap.size w wb) (k : Calls P f args wb fun e w' => X e w' ∧ Below wb.heap.size wb w') :
    Calls P f args wb fun e w' => X e w' ∧ Hp o w' l ∧ Stays w wb w' :=
  k.mono fun _ _ ⟨a, b⟩ => ⟨a, h.bel (bstep hw b), Nat.le_trans hw.size b.size, fun x _ hx => b.block x hx⟩
/-- One thing for one thing, nothing given away. -/
theorem mvd1 {A R A' : Nat → Prop} {s : Th} (hs : s.P A' R w') (hf : Fr A w w') (hR : ∀ x, R x → x < w.heap.size) (hA : ∀ x, A x → ¬ R x) (hO : ∀ x, A' x → A x ∨ w.heap.size ≤ x) : Mvd A R w w' [s] :=
  ⟨A', R, ⟨A', fun _ => False, hs, fun _ h => h, fun _ _ h => h, fun x => by simp⟩, hf, fun x hx => ⟨hO x hx, fun hr => by
    rcases hO x hx with h | h
    · exact hA x h hr
    · have := hR x hr; omega⟩, fun _ h => h, fun x hx => ⟨.inl hx, Nat.lt_of_lt_of_le (hR x hx) hf.size⟩⟩
/-- New things. -/
theorem Hp.add (h : Hp o w l) (hw : Below w.heap.size w w') {ts : List Th} (k : ∀ {R : Nat → Prop}, (∀ x, R x → x < w.heap.size) → ∃ A' R', All ts A' R' w' ∧ (∀ x, A' x → w.heap.size ≤ x ∧ ¬ R' x) ∧ (∀ x, R x → R' x) ∧ (∀ x, R' x → (R x ∨ w.heap.size ≤ x) ∧ x < w'.heap.size)) : Hp o w' (ts ++ l) := by
  have h0 : Hp o w (star [] :: l) := Hp.shut h
  refine (h0.moved (Below.refl _ _) (w' := w') (ts := ts) fun {A R} h1 h2 h3 h4 => ?_).1
  obtain ⟨A', R', g1, g2, g3, g4⟩ := k h3
  exact ⟨A', R', g1, Fr.of_below hw, fun x hx => ⟨.inr (g2 x hx).1, (g2 x hx).2⟩, g3, fun x hx => ⟨(g4 x hx).1.imp id .inr, (g4 x hx).2⟩⟩
theorem Hp.ro (h : Hp o w (t :: l)) {r : Ro} (k : ∀ {O R}, t.P O R w → (∀ x, R x → x < w.heap.size) → r.P R w) : Hp o w (roT r :: t :: l) := by
  obtain ⟨O, R, ⟨A, B, h1, h2, h3, h4⟩, h5, h6, h7, h8⟩ := h
  exact ⟨O, R, ⟨fun _ => False, O, ⟨fun _ h => h, k h1 h6⟩, ⟨A, B, h1, h2, h3, h4⟩, fun _ h => h.elim, fun x => by simp⟩, h5, h6, h7, h8⟩
theorem Stays.cell (h : Stays w wb w') {x i : Nat} {v : Value} (hx : w.heap.size ≤ x) (hb : wb.cell? ⟨x, i, none⟩ = some v) : w'.cell? ⟨x, i, none⟩ = some v := by
  have := h.2 x hx (World.block_lt_of_cell? wb _ hb)
  simp only [World.cell?, this] at hb ⊢
  exact hb
theorem Stays.frozen (h : Stays w wb w') {x i : Nat} (hx : w.heap.size ≤ x) (hl : x < wb.heap.size) : w'.frozen? ⟨x, i, none⟩ = wb.frozen? ⟨x, i, none⟩ := World.frozen?_of_block (a := ⟨x, i, none⟩) (h.2 x hx hl)
end
/-- A block of the caller's own, whose cells are known. -/
def cellsT (b : Nat) (vs : List Value) : Th :=
  ⟨fun O _ w => (∀ x, O x ↔ x = b) ∧ b < w.heap.size ∧ (∀ i (h : i < vs.length), w.cell? ⟨b, i, none⟩ = some vs[i]) ∧ ∀ i, i < vs.length → w.frozen? ⟨b, i, none⟩ = false,
   fun h x hx => by rw [(h.1 x).1 hx]; exact h.2.1,
   fun {O R R' w w'} h hs _ _ hb => by
    have e := hb b (.inl ((h.1 b).2 rfl))
    refine ⟨h.1, Nat.lt_of_lt_of_le h.2.1 hs, fun i hi => ?_, fun i hi => ?_⟩
    · have := h.2.2.1 i hi
      simp only [World.cell?, e] at this ⊢
      exact this
    · exact (World.frozen?_of_block (a := ⟨b, i, none⟩) e).trans (h.2.2.2 i hi)⟩
end Go.Proofs.Ytnmncjeplfkdpaa.Sp
/- Rows that grow, as things; blocks whose cells are known, written; a row that is new is known from now on. Of no program, no condition but bounds. -/
namespace Go.Proofs.Ytnmncjeplfkdpaa.Sp
set_option linter.unusedVariables false
set_option linter.unusedSimpArgs false
open Go.ChangeShapes Go.WideShapes Go.ChangeAt Go.RowKit
theorem row_block {w w' : World} {base : Nat} {e : TypeId} {size : Nat} {v : Value} {n : Nat} {xs : List Value} (h : w.ownsRow base e size v n xs) (hb : ∀ x, v.ownBlock = some x → w'.heap[x]? = w.heap[x]?) : w'.ownsRow base e size v n xs := by
  refine ⟨h.1, ?_⟩
  rcases h.2 with hn | ⟨g, cap, cur, rfl, h1, h2, h3⟩
  · exact .inl hn
  · exact .inr ⟨g, cap, cur, rfl, h1, (hb g rfl).trans h2, h3⟩
theorem row_base {w : World} {base : Nat} {e : TypeId} {size : Nat} {v : Value} {n : Nat} {xs : List Value} (h : w.ownsRow base e size v n xs) (base' : Nat) (hb : ∀ g, v.ownBlock = some g → base' ≤ g) : w.ownsRow base' e size v n xs := by
  refine ⟨h.1, ?_⟩
  rcases h.2 with hn | ⟨g, cap, cur, rfl, h1, h2, h3⟩
  · exact .inl hn
  · exact .inr ⟨g, cap, cur, rfl, hb g rfl, h2, h3⟩
/-- A row of n elements of so many cells each, in a block of its own (or nil). -/
def rowT (e : TypeId) (size : Nat) (v : Value) (n : Nat) (xs : List Value) : Th :=
  ⟨fun O _ w => (∀ x, O x ↔ v.ownBlock = some x) ∧ w.ownsRow 0 e size v n xs,
   fun h x hx => (h.2.lt x ((h.1 x).1 hx)).2,
   fun h _ _ _ hb => ⟨h.1, row_block h.2 fun x hx => hb x (.inl ((h.1 x).2 hx))⟩⟩
section
variable {o w w' wb : World} {l : List Th} {e : TypeId} {size n cap g : Nat} {v : Value} {xs : List Value}
theorem Hp.row (h : Hp o w (rowT e size v n xs :: l)) : w.ownsRow 0 e size v n xs := h.say fun k _ _ => k.2
theorem Hp.rowCell (h : Hp o w (rowT e size (.slice (some ⟨g, 0, none⟩) n cap) n xs :: l)) {j : Nat} (hj : j < n * size) : w.cell? ⟨g, j, none⟩ = xs[j]? := h.row.cellAt j hj
theorem Hp.rowFrozen (h : Hp o w (rowT e size (.slice (some ⟨g, 0, none⟩) n cap) n xs :: l)) (j : Nat) : w.frozen? ⟨g, j, none⟩ = false := h.row.frozenAt j
theorem Hp.rowForm (h : Hp o w (rowT e size v n xs :: l)) : ∃ a c, v = .slice a n c ∧ n ≤ c ∧ c ≤ 9223372036854775807 ∧ (0 < n → ∃ g, a = some ⟨g, 0, none⟩) := by
  rcases h.row.2 with ⟨rfl, rfl⟩ | ⟨g, cap, cur, rfl, -, -, h1, h2, -⟩
  · exact ⟨none, 0, rfl, Nat.le_refl _, by decide, fun h => absurd h (Nat.lt_irrefl _)⟩
  · exact ⟨_, cap, rfl, h1, by unfold maxLen at h2; omega, fun _ => ⟨g, rfl⟩⟩
theorem Hp.rowSet (h : Hp o w (rowT e size (.slice (some ⟨g, 0, none⟩) n cap) n xs :: l)) (j : Nat) (u : Value) : Hp o (w.setCell ⟨g, j, none⟩ u) (rowT e size (.slice (some ⟨g, 0, none⟩) n cap) n (xs.set j u) :: l) := by
  refine (h.moved (Below.refl _ _) (ts := [rowT e size (.slice (some ⟨g, 0, none⟩) n cap) n (xs.set j u)]) fun {A R} k hA hR hAR => ?_).1
  obtain ⟨k1, k2⟩ := k.2.stored j u
  exact mvd1 (A' := A) ⟨k.1, k1⟩ (Fr.setCell w ⟨g, j, none⟩ ((k.1 g).2 rfl) u) hR hAR fun x hx => .inl hx
theorem Hp.rowCut {a : Option Addr} (h : Hp o w (rowT e size (.slice a n cap) n xs :: l)) (m : Nat) (hm : m ≤ n) : Hp o w (rowT e size (.slice a m cap) m (xs.take (m * size)) :: l) := by
  refine (h.moved (Below.refl _ _) (ts := [rowT e size (.slice a m cap) m (xs.take (m * size))]) fun {A R} k hA hR hAR => ?_).1
  refine mvd1 (A' := A) ⟨fun x => (k.1 x).trans (by cases a <;> simp [Value.ownBlock]), ?_⟩ (Fr.refl w) hR hAR fun x hx => .inl hx
  have hl := k.2.1
  have hmn := Nat.mul_le_mul_right size hm
  refine ⟨by rw [List.length_take]; omega, ?_⟩
  rcases k.2.2 with ⟨h1, h2⟩ | ⟨g, c, cur, h1, h2, h3, h4, h5, h6, h7⟩
  · injection h1 with e1 e2 e3
    subst e1 e3
    have : m = 0 := by omega
    subst this
    exact .inl ⟨rfl, rfl⟩
  · injection h1 with e1 e2 e3
    subst e1 e3
    refine .inr ⟨g, cap, cur, rfl, h2, h3, by omega, h5, h6, ?_⟩
    rw [← h7, List.take_take, Nat.min_eq_left hmn]
theorem Hp.rowNil (h : Hp o w l) (e : TypeId) (size : Nat) : Hp o w (rowT e size (.slice none 0 0) 0 [] :: l) :=
  h.add (Below.refl _ _) (ts := [rowT e size (.slice none 0 0) 0 []]) fun {R} hR => ⟨fun _ => False, R, ⟨fun _ => False, fun _ => False, ⟨fun x => by simp [Value.ownBlock], World.ownsRow_nil _ _ _ _⟩, fun _ h => h, fun _ h => h.elim, fun x => by simp⟩, fun x hx => hx.elim, fun _ h => h, fun x hx => ⟨.inl hx, hR x hx⟩⟩
/-- A row that a call made. -/
theorem Hp.rowAdd (h : Hp o w l) (hb : Below w.heap.size w w') {base : Nat} (hr : w'.ownsRow base e size v n xs) (hbase : w.heap.size ≤ base) : Hp o w' (rowT e size v n xs :: l) :=
  h.add hb (ts := [rowT e size v n xs]) fun {R} hR => ⟨fun x => v.ownBlock = some x, R, ⟨_, fun _ => False, ⟨fun x => Iff.rfl, row_base hr 0 fun _ _ => Nat.zero_le _⟩, fun _ h => h, fun _ _ h => h, fun x => by simp⟩, fun x hx => ⟨Nat.le_trans hbase (hr.lt x hx).1, fun hr' => by have := hR x hr'; have := (hr.lt x hx).1; omega⟩, fun _ h => h, fun x hx => ⟨.inl hx, Nat.lt_of_lt_of_le (hR x hx) hb.size⟩⟩
/-- append onto a row. -/
theorem Hp.rowPush {P : Program} {ops : Array Oper} {rest : List Oper} {op : Oper} {a : Act} {Q : Exit → Act → World → Prop} (h : Hp o w (rowT e size v n xs :: l)) (hw : Below w.heap.size w wb) (hgd : op.guard = none) (s x : Operand) (t : TypeId)
    (ho : op.op = .call { callee := .builtin .append, args := #[s, x], argTypes := #[t, t] })
    (i : TypeInfo) (z : Value) (bytes : Nat) (ht : P.underlying t = some (.slice e)) (hi : P.info? e = some i) (hz : i.zero = some z)
    (hsize : i.size = size) (hby : i.bytes = bytes) (hzs : z.cells.size = size) (hsz : 0 < size) (hs : a.eval s = v)
    (ad : Addr) (m c : Nat) (news : List Value) (hx : a.eval x = .slice (some ad) m c) (hl : news.length = m * size) (hnews : ∀ j u, news[j]? = some u → wb.cell? (ad.add j) = some u) (h1 : ∀ u ∈ news, u.oneCell' = true)
    (h63 : n + m ≤ maxLen) (hbytes : (n + m) * bytes ≤ 140737488355328)
    (K : ∀ v' w', Hp o w' (rowT e size v' (n + m) (xs ++ news) :: l) → Stays w wb w' → wpList P ops Q rest (a.put op.dst v') w') : wpList P ops Q (op :: rest) a wb := by
  have hb := h.bel hw
  refine wpList_append_own_at wb hgd s x t ho 0 e i z size bytes ht hi hz hsize hby hzs hsz v n xs hs hb.row ad m c news hx hl hnews h1 h63 hbytes (Nat.zero_le _) ?_
  intro v' w' g1 g2 g3 g4
  have := h.moved hw (w' := w') (ts := [rowT e size v' (n + m) (xs ++ news)]) fun {A R} k hA hR hAR => ?_
  · exact K v' w' this.1 this.2
  · refine mvd1 (A' := fun x => v'.ownBlock = some x) ⟨fun x => Iff.rfl, g1⟩ ⟨g2.os, g2.tape, g2.output, g2.size, fun i hi hn => g2.block i hi fun e => hn ((k.1 i).2 e.symm)⟩ (fun x hx => Nat.lt_of_lt_of_le (hR x hx) hw.size) hAR fun x hx => ?_
    rcases g4 with e | e
    · exact .inl ((k.1 x).2 (by rw [← e]; exact hx))
    · rw [e] at hx
      obtain rfl := Option.some.inj hx
      exact .inr (Nat.le_refl _)
/-- A row is given away: no one writes it any more. -/
theorem Hp.rowGive (h : Hp o w (rowT e size v n xs :: l)) (r : Ro) (k : ∀ {R}, (∀ x, v.ownBlock = some x → R x) → r.P R w) : Hp o w (roT r :: l) := by
  refine (h.moved (Below.refl _ _) (ts := [roT r]) fun {A R} k1 hA hR hAR => ?_).1
  refine ⟨fun _ => False, fun x => R x ∨ A x, ⟨fun _ => False, fun _ => False, ⟨fun _ h => h, k fun x hx => .inr ((k1.1 x).2 hx)⟩, fun _ h => h, fun _ h => h.elim, fun x => by simp⟩, Fr.refl w, fun x hx => hx.elim, fun x hx => .inl hx, fun x hx => ?_⟩
  rcases hx with hx | hx
  · exact ⟨.inl hx, hR x hx⟩
  · exact ⟨.inr (.inl hx), hA x hx⟩
theorem Hp.cells {b : Nat} {vs : List Value} (h : Hp o w (cellsT b vs :: l)) : ∀ i (hi : i < vs.length), w.cell? ⟨b, i, none⟩ = some vs[i] := h.say fun k _ _ => k.2.2.1
theorem Hp.cellsF {b : Nat} {vs : List Value} (h : Hp o w (cellsT b vs :: l)) : ∀ i, i < vs.length → w.frozen? ⟨b, i, none⟩ = false := h.say fun k _ _ => k.2.2.2
theorem Hp.cell {b : Nat} {vs : List Value} (h : Hp o w (cellsT b vs :: l)) (i : Nat) {v : Value} (hv : vs[i]? = some v) : w.cell? ⟨b, i, none⟩ = some v := by
  obtain ⟨hi, e⟩ := List.getElem?_eq_some_iff.1 hv
  rw [h.cells i hi, e]
theorem Hp.free {b : Nat} {vs : List Value} (h : Hp o w (cellsT b vs :: l)) (i : Nat) {v : Value} (hv : vs[i]? = some v) : w.frozen? ⟨b, i, none⟩ = false := h.cellsF i (List.getElem?_eq_some_iff.1 hv).1
theorem Hp.cellsLt {b : Nat} {vs : List Value} (h : Hp o w (cellsT b vs :: l)) : b < w.heap.size := h.say fun k _ _ => k.2.1
theorem Hp.cellsSet {b : Nat} {vs : List Value} (h : Hp o w (cellsT b vs :: l)) (i : Nat) (u : Value) (hi : i < vs.length) : Hp o (w.setCell ⟨b, i, none⟩ u) (cellsT b (vs.set i u) :: l) := by
  refine (h.moved (Below.refl _ _) (ts := [cellsT b (vs.set i u)]) fun {A R} k hA hR hAR => ?_).1
  obtain ⟨k1, k2, k3, k4⟩ := k
  refine mvd1 (A' := A) ⟨k1, by simpa [World.setCell] using k2, fun j hj => ?_, fun j hj => by rw [World.frozen?_setCell]; exact k4 j (by simpa using hj)⟩ (Fr.setCell w ⟨b, i, none⟩ ((k1 b).2 rfl) u) hR hAR fun x hx => .inl hx
  by_cases e : j = i
  · subst e
    rw [List.getElem_set_self]
    exact World.cell?_setCell_same w _ u (k3 j hi)
  · rw [List.getElem_set_ne (Ne.symm e)]
    have hj' : j < vs.length := by simpa using hj
    refine (World.cell?_setCell_other _ _ _ _ fun h => ?_).trans (k3 j hj')
    injection h with _ h2
    exact e h2.symm
theorem Hp.cellSet {b : Nat} {vs : List Value} (h : Hp o w (cellsT b vs :: l)) (i : Nat) (u : Value) {v : Value} (hv : vs[i]? = some v) : Hp o (w.setCell ⟨b, i, none⟩ u) (cellsT b (vs.set i u) :: l) := h.cellsSet i u (List.getElem?_eq_some_iff.1 hv).1
theorem Hp.cellsNew (h : Hp o w l) (vs : List Value) (T : TypeId) : Hp o (w.alloc (.cells vs.toArray T)) (cellsT w.heap.size vs :: l) := by
  have hs : (w.alloc (.cells vs.toArray T)).heap.size = w.heap.size + 1 := by simp
  have hc := fun j => World.cell?_alloc_new w vs.toArray T j
  refine h.add (bbox _) (ts := [cellsT w.heap.size vs]) fun {R} hR => ⟨fun x => x = w.heap.size, R, ⟨_, fun _ => False, ⟨fun x => Iff.rfl, by omega, fun i hi => ?_, fun i hi => ?_⟩, fun _ h => h, fun _ _ h => h, fun x => by simp⟩, fun x hx => ⟨by omega, fun hr => by have := hR x hr; omega⟩, fun _ h => h, fun x hx => ⟨.inl hx, by have := hR x hx; omega⟩⟩
  · rw [hc]
    simp [hi]
  · go_simp
end

/-- The thing at a place to the front, and the first one back to a place: for lists that are written out. -/
theorem Hp.pull' {o w : World} {l : List Th} (h : Hp o w l) (i : Nat) {t : Th} {m : List Th} (ht : l[i]? = some t) (hm : l.eraseIdx i = m) : Hp o w (t :: m) := hm ▸ h.pull i ht
theorem Hp.push' {o w : World} {l : List Th} {t : Th} (h : Hp o w (t :: l)) (i : Nat) {m : List Th} (hm : l.insertIdx i t = m) : Hp o w m := hm ▸ h.push i
end Go.Proofs.Ytnmncjeplfkdpaa.Sp
