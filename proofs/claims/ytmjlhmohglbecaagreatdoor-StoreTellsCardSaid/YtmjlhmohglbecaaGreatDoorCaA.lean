/- Package recent, plain: the ring's nodes by their places; keys in order. No program, no condition. -/
import Derived.Test.YtmjlhmohglbecaaGreatDoorProg
import Derived.Test.YtmjlhmohglbecaaGreatDoorRows
import Derived.WalkKit
import Derived.ProofKit
import Derived.OpenShut
import Derived.WalkSmall
import Derived.WalkSpells
import Derived.WalkLawsBesides
import Derived.Outline
import Derived.Lib.Hide
import Derived.Deep.RegionWith
import Derived.Deep.LoopGhost
import Derived.OwnWalk
import Derived.IntWalk
import Derived.Laws.AppendOwn
import Derived.Laws.IdiomStrings
import Derived.Lib.Strings
import Derived.Maps.OwnSet
import Derived.Deep.QuietTactic
import Derived.BigQuiet
import Derived.BigRegion
import Derived.LaidEqlPtr
namespace Go.Proofs.YtmjlhmohglbecaaGreatDoor.Ca
/-- A ring's links: their blocks, their keys; the one used longest ago first. -/
abbrev Lk := List (Nat × ByteArray)
/-- The block of the i-th node of the ring: 0 is that of no key, as is whatever lies behind the last one. -/
def nd (E : Nat) (L : Lk) (i : Nat) : Nat := if i = 0 then E else ((L[i - 1]?).map (·.1)).getD E
theorem nd_zero (E : Nat) (L : Lk) : nd E L 0 = E := rfl
theorem nd_succ {E : Nat} {L : Lk} {i : Nat} (h : i < L.length) : nd E L (i + 1) = L[i].1 := by
  unfold nd
  rw [if_neg (by omega), Nat.add_sub_cancel, List.getElem?_eq_getElem h]; rfl
theorem nd_end {E : Nat} {L : Lk} {i : Nat} (h : L.length < i) : nd E L i = E := by
  unfold nd
  split
  · rfl
  · rw [List.getElem?_eq_none (by omega)]; rfl
theorem nd_append {E : Nat} {L : Lk} {p : Nat × ByteArray} {i : Nat} (h : i ≤ L.length) : nd E (L ++ [p]) i = nd E L i := by
  unfold nd
  split
  · rfl
  · rw [List.getElem?_append_left (by omega)]
theorem nd_append_last {E : Nat} {L : Lk} {p : Nat × ByteArray} : nd E (L ++ [p]) (L.length + 1) = p.1 := by
  unfold nd
  rw [if_neg (by omega), Nat.add_sub_cancel, List.getElem?_append_right (Nat.le_refl _)]
  simp
theorem nd_erase {E : Nat} {L : Lk} {j i : Nat} : nd E (L.eraseIdx j) i = if i ≤ j then nd E L i else nd E L (i + 1) := by
  unfold nd
  by_cases h0 : i = 0
  · subst h0; simp
  · rw [if_neg h0, List.getElem?_eraseIdx]
    by_cases h1 : i ≤ j
    · rw [if_pos (by omega), if_pos h1, if_neg h0]
    · rw [if_neg (by omega), if_neg h1, if_neg (by omega), show i - 1 + 1 = i + 1 - 1 by omega]
/-- The keys without one. -/
def dropK (k : ByteArray) (l : List ByteArray) : List ByteArray := l.filter fun x => !decide (x = k)
/-- .. with one as the last one. -/
def touchK (k : ByteArray) (l : List ByteArray) : List ByteArray := dropK k l ++ [k]
/-- The first one but one. -/
def oldK (but : ByteArray) (l : List ByteArray) : Option ByteArray := l.find? fun x => !decide (x = but)
/-- Is a key there? -/
def inK (k : ByteArray) (l : List ByteArray) : Bool := l.any fun x => decide (x = k)
theorem inK_iff {k : ByteArray} {l : List ByteArray} : inK k l = true ↔ k ∈ l := by
  unfold inK
  rw [List.any_eq_true]
  constructor
  · rintro ⟨x, hx, e⟩
    exact of_decide_eq_true e ▸ hx
  · exact fun h => ⟨k, h, decide_eq_true rfl⟩
theorem inK_false {k : ByteArray} {l : List ByteArray} : inK k l = false ↔ k ∉ l := by
  rw [← inK_iff, Bool.not_eq_true]
theorem dropK_none {k : ByteArray} {l : List ByteArray} (h : k ∉ l) : dropK k l = l :=
  List.filter_eq_self.2 fun x hx => by
    have : x ≠ k := fun e => h (e ▸ hx)
    simp [this]
theorem dropK_len (k : ByteArray) (l : List ByteArray) : (dropK k l).length < l.length ↔ k ∈ l := by
  constructor
  · intro h
    exact Classical.byContradiction fun hn => by rw [dropK_none hn] at h; omega
  · intro h
    have h1 := List.length_filter_le (fun x => !decide (x = k)) l
    rcases Nat.lt_or_eq_of_le h1 with h2 | h2
    · exact h2
    · have := List.length_filter_eq_length_iff.1 h2 k h
      simp at this
theorem mem_dropK {k x : ByteArray} {l : List ByteArray} : x ∈ dropK k l ↔ x ∈ l ∧ x ≠ k := by simp [dropK]
theorem dropK_nodup {k : ByteArray} {l : List ByteArray} (h : l.Nodup) : (dropK k l).Nodup := h.filter _
theorem touchK_nodup {k : ByteArray} {l : List ByteArray} (h : l.Nodup) : (touchK k l).Nodup := by
  unfold touchK
  rw [List.nodup_append]
  refine ⟨dropK_nodup h, by simp, fun a ha b hb e => ?_⟩
  simp only [List.mem_singleton] at hb
  exact (mem_dropK.1 ha).2 (by rw [e, hb])
/-- Where keys stand once, to drop one is to strike its place. -/
theorem dropK_erase : ∀ {L : List ByteArray} (_h : L.Nodup) {j : Nat} (hj : j < L.length), dropK L[j] L = L.eraseIdx j
  | [], _, j, hj => absurd hj (Nat.not_lt_zero _)
  | x :: r, h, 0, hj => by
    have hx : x ∉ r := (List.nodup_cons.1 h).1
    show List.filter _ (x :: r) = r
    rw [List.filter_cons_of_neg (by simp)]
    exact dropK_none hx
  | x :: r, h, j + 1, hj => by
    have hx := List.nodup_cons.1 h
    have hjr : j < r.length := by simpa using hj
    have hne : x ≠ r[j] := fun e => hx.1 (e ▸ List.getElem_mem hjr)
    show List.filter _ (x :: r) = x :: r.eraseIdx j
    rw [List.filter_cons_of_pos (by simpa using hne)]
    exact congrArg _ (dropK_erase hx.2 hjr)
theorem map_erase : ∀ (L : Lk) (j : Nat), (L.eraseIdx j).map (·.2) = (L.map (·.2)).eraseIdx j
  | [], _ => rfl
  | _ :: _, 0 => rfl
  | x :: r, j + 1 => congrArg (x.2 :: ·) (map_erase r j)
end Go.Proofs.YtmjlhmohglbecaaGreatDoor.Ca
/- Package recent: what of memory stands (Fr); two cells written; the ring as it lies, without one, with one more. No program's walk, no condition. -/
namespace Go.Proofs.YtmjlhmohglbecaaGreatDoor.Ca
open Go.ChangeShapes Go.WideShapes Go.ChangeAt Go.RowKit
theorem bstep {a b c : World} (h : Below a.heap.size a b) (k : Below b.heap.size b c) : Below a.heap.size a c := h.trans (k.mono h.size)
theorem bbox {w : World} (o : Obj) : Below w.heap.size w (w.alloc o) := (Below.refl _ _).alloc (Nat.le_refl _) o
theorem addr_ne {b c i j : Nat} (h : b ≠ c ∨ i ≠ j) : (⟨b, i, none⟩ : Addr) ≠ ⟨c, j, none⟩ := by
  intro e
  injection e with e1 e2
  rcases h with h | h
  · exact h e1
  · exact h e2
/-- Of w all blocks stand in w' but those that S names; no cell is frozen or thawed. -/
structure Fr (S : Nat → Prop) (w w' : World) : Prop where
  os : w'.os = w.os
  tape : w'.tape = w.tape
  output : w'.output = w.output
  size : w.heap.size ≤ w'.heap.size
  block : ∀ i, i < w.heap.size → ¬ S i → w'.heap[i]? = w.heap[i]?
section
variable {S T : Nat → Prop} {a b c w w' : World}
theorem Fr.below {B : Nat} (h : Fr S w w') (hB : B ≤ w.heap.size) (hS : ∀ i, i < B → ¬ S i) : Below B w w' := ⟨h.os, h.tape, h.output, h.size, fun i hi => h.block i (Nat.lt_of_lt_of_le hi hB) (hS i hi)⟩
theorem Fr.of_below (h : Below w.heap.size w w') : Fr S w w' := ⟨h.os, h.tape, h.output, h.size, fun i hi _ => h.block i hi⟩
theorem Fr.trans (h : Fr S a b) (k : Fr S b c) : Fr S a c :=
  ⟨k.os.trans h.os, k.tape.trans h.tape, k.output.trans h.output, Nat.le_trans h.size k.size, fun i hi hs => (k.block i (Nat.lt_of_lt_of_le hi h.size) hs).trans (h.block i hi hs)⟩
theorem Fr.mono (h : Fr S a b) (hST : ∀ i, S i → T i) : Fr T a b := ⟨h.os, h.tape, h.output, h.size, fun i hi hs => h.block i hi fun hx => hs (hST i hx)⟩
/-- .. where what is named more lies behind a. -/
theorem Fr.mono2 (h : Fr S a b) (hST : ∀ i, i < a.heap.size → S i → T i) : Fr T a b := ⟨h.os, h.tape, h.output, h.size, fun i hi hs => h.block i hi fun hx => hs (hST i hi hx)⟩
theorem Fr.trans2 (h : Fr S a b) (k : Fr T b c) (hST : ∀ i, i < a.heap.size → T i → S i) : Fr S a c :=
  ⟨k.os.trans h.os, k.tape.trans h.tape, k.output.trans h.output, Nat.le_trans h.size k.size, fun i hi hs => (k.block i (Nat.lt_of_lt_of_le hi h.size) (fun ht => hs (hST i hi ht))).trans (h.block i hi hs)⟩
theorem Fr.setCell (w : World) (p : Addr) (hp : S p.block) (v : Value) : Fr S w (w.setCell p v) := by
  have h := Below.setCell (p := p) (Below.refl p.block w) (Nat.le_refl _) v
  exact ⟨h.os, h.tape, h.output, h.size, fun i _ hs => Below.heap_setCell w p v i (fun e => hs (e ▸ hp))⟩
theorem Fr.drew (w : World) : Fr S w w.drew := ⟨rfl, rfl, rfl, Nat.le_refl _, fun _ _ _ => rfl⟩
theorem Fr.cell (h : Fr S w w') {x j : Nat} {v : Value} (hx : ¬ S x) (hc : w.cell? ⟨x, j, none⟩ = some v) : w'.cell? ⟨x, j, none⟩ = some v := by
  have := h.block x (World.block_lt_of_cell? w _ hc) hx
  simp only [World.cell?, this] at hc ⊢
  exact hc
theorem Fr.frozen (h : Fr S w w') {x j : Nat} (hx : ¬ S x) (hl : x < w.heap.size) : w'.frozen? ⟨x, j, none⟩ = w.frozen? ⟨x, j, none⟩ := World.frozen?_of_block (a := ⟨x, j, none⟩) (h.block x hl hx)
end
/-- Two cells hold other values now; all others, and what is frozen, stand. -/
structure Set2 (a b : Addr) (u v : Value) (w w' : World) : Prop where
  ca : w'.cell? a = some u
  cb : w'.cell? b = some v
  ot : ∀ x, x ≠ a → x ≠ b → w'.cell? x = w.cell? x
  fz : ∀ x, w'.frozen? x = w.frozen? x
  fr : Fr (fun i => i = a.block ∨ i = b.block) w w'
theorem set2_of (w : World) {a b : Addr} {u v x y : Value} (hne : a ≠ b) (ha : w.cell? a = some x) (hb : w.cell? b = some y) : Set2 a b u v w ((w.setCell a u).setCell b v) := by
  refine ⟨?_, ?_, fun z h1 h2 => ?_, fun z => ?_, (Fr.setCell w a (.inl rfl) u).trans (Fr.setCell _ b (.inr rfl) v)⟩
  · rw [World.cell?_setCell_other _ _ _ _ (Ne.symm hne)]
    exact World.cell?_setCell_same w a u ha
  · exact World.cell?_setCell_same _ b v ((World.cell?_setCell_other _ _ _ _ hne).trans hb)
  · rw [World.cell?_setCell_other _ _ _ _ (Ne.symm h2), World.cell?_setCell_other _ _ _ _ (Ne.symm h1)]
  · rw [World.frozen?_setCell, World.frozen?_setCell]
theorem set2_of' (w : World) {a b : Addr} {u v x y : Value} (hne : a ≠ b) (ha : w.cell? a = some x) (hb : w.cell? b = some y) : Set2 a b u v w ((w.setCell b v).setCell a u) := by
  have h := set2_of w (u := v) (v := u) (Ne.symm hne) hb ha
  exact ⟨h.cb, h.ca, fun z h1 h2 => h.ot z h2 h1, h.fz, h.fr.mono fun i => Or.symm⟩
theorem Set2.drew {a b : Addr} {u v : Value} {w w' : World} (h : Set2 a b u v w w') : Set2 a b u v w w'.drew := ⟨h.ca, h.cb, h.ot, h.fz, h.fr.trans (Fr.drew w')⟩
/-- A ring as it lies: node 0 is of no key; of each link its key. -/
structure Ring (w : World) (E : Nat) (L : Lk) : Prop where
  up : ∀ i, i ≤ L.length → w.cell? ⟨nd E L i, 2, none⟩ = some (.pointer (some ⟨nd E L (i + 1), 0, none⟩))
  dn : ∀ i, i ≤ L.length → w.cell? ⟨nd E L (i + 1), 1, none⟩ = some (.pointer (some ⟨nd E L i, 0, none⟩))
  key : ∀ i (h : i < L.length), w.cell? ⟨L[i].1, 0, none⟩ = some (.string L[i].2)
  ne : ∀ i j, i ≤ L.length → j ≤ L.length → nd E L i = nd E L j → i = j
  fz : ∀ i j, i ≤ L.length → w.frozen? ⟨nd E L i, j, none⟩ = false
section
variable {w w' : World} {E : Nat} {L : Lk}
theorem Ring.lt (h : Ring w E L) {i : Nat} (hi : i ≤ L.length) : nd E L i < w.heap.size := World.block_lt_of_cell? w _ (h.up i hi)
theorem Ring.ne1 (h : Ring w E L) {i j : Nat} (hi : i ≤ L.length) (hj : j ≤ L.length) (e : nd E L (i + 1) = nd E L (j + 1)) : i = j := by
  by_cases h1 : i = L.length
  · by_cases h2 : j = L.length
    · omega
    · rw [h1, nd_end (Nat.lt_succ_self _)] at e
      have := h.ne 0 (j + 1) (by omega) (by omega) e
      omega
  · by_cases h2 : j = L.length
    · rw [h2, nd_end (Nat.lt_succ_self _)] at e
      have := h.ne (i + 1) 0 (by omega) (by omega) e
      omega
    · have := h.ne (i + 1) (j + 1) (by omega) (by omega) e
      omega
/-- What touches no node's block. -/
theorem Ring.keep (h : Ring w E L) (hb : ∀ i, i ≤ L.length → w'.heap[nd E L i]? = w.heap[nd E L i]?) : Ring w' E L := by
  have c : ∀ i j, i ≤ L.length → w'.cell? ⟨nd E L i, j, none⟩ = w.cell? ⟨nd E L i, j, none⟩ := fun i j hi => World.cell?_of_block (a := ⟨nd E L i, j, none⟩) (hb i hi)
  have c1 : ∀ i j, i ≤ L.length → w'.cell? ⟨nd E L (i + 1), j, none⟩ = w.cell? ⟨nd E L (i + 1), j, none⟩ := fun i j hi => by
    by_cases hl : i + 1 ≤ L.length
    · exact c _ _ hl
    · rw [nd_end (by omega)]; exact c 0 j (Nat.zero_le _)
  refine ⟨fun i hi => (c i 2 hi).trans (h.up i hi), fun i hi => (c1 i 1 hi).trans (h.dn i hi), fun i hi => ?_, h.ne, fun i j hi => (World.frozen?_of_block (a := ⟨nd E L i, j, none⟩) (hb i hi)).trans (h.fz i j hi)⟩
  have := c (i + 1) 0 (by omega)
  rw [nd_succ hi] at this
  exact this.trans (h.key i hi)
theorem Ring.below (h : Ring w E L) (hb : Below w.heap.size w w') : Ring w' E L := h.keep fun _ hi => hb.block _ (h.lt hi)
/-- Without the j-th link. -/
theorem Ring.leave (h : Ring w E L) {j : Nat} (hj : j < L.length) (hs : Set2 ⟨nd E L j, 2, none⟩ ⟨nd E L (j + 2), 1, none⟩ (.pointer (some ⟨nd E L (j + 2), 0, none⟩)) (.pointer (some ⟨nd E L j, 0, none⟩)) w w') : Ring w' E (L.eraseIdx j) := by
  have hl : (L.eraseIdx j).length = L.length - 1 := List.length_eraseIdx_of_lt hj
  refine ⟨fun i hi => ?_, fun i hi => ?_, fun i hi => ?_, fun i k hi hk e => ?_, fun i k hi => ?_⟩
  · rw [hl] at hi
    rw [nd_erase, nd_erase]
    by_cases h1 : i < j
    · rw [if_pos (by omega), if_pos (by omega), hs.ot _ (addr_ne (.inl fun e => by have := h.ne i j (by omega) (by omega) e; omega)) (addr_ne (.inr (by decide)))]
      exact h.up i (by omega)
    · by_cases h2 : i = j
      · subst h2
        rw [if_pos (Nat.le_refl _), if_neg (by omega)]
        exact hs.ca
      · rw [if_neg (by omega), if_neg (by omega), hs.ot _ (addr_ne (.inl fun e => by have := h.ne (i + 1) j (by omega) (by omega) e; omega)) (addr_ne (.inr (by decide)))]
        exact h.up (i + 1) (by omega)
  · rw [hl] at hi
    rw [nd_erase, nd_erase]
    by_cases h1 : i < j
    · rw [if_pos (by omega), if_pos (by omega), hs.ot _ (addr_ne (.inr (by decide))) (addr_ne (.inl fun e => by have := h.ne1 (i := i) (j := j + 1) (by omega) (by omega) e; omega))]
      exact h.dn i (by omega)
    · by_cases h2 : i = j
      · subst h2
        rw [if_neg (by omega), if_pos (Nat.le_refl _)]
        exact hs.cb
      · rw [if_neg (by omega), if_neg (by omega), hs.ot _ (addr_ne (.inr (by decide))) (addr_ne (.inl fun e => by have := h.ne1 (i := i + 1) (j := j + 1) (by omega) (by omega) e; omega))]
        exact h.dn (i + 1) (by omega)
  · have hi' : i < L.length - 1 := by omega
    rw [hs.ot _ (addr_ne (.inr (by decide))) (addr_ne (.inr (by decide)))]
    by_cases h1 : i < j
    · have e : (L.eraseIdx j)[i] = L[i] := by rw [List.getElem_eraseIdx, dif_pos h1]
      rw [e]; exact h.key i (by omega)
    · have e : (L.eraseIdx j)[i] = L[i + 1] := by rw [List.getElem_eraseIdx, dif_neg h1]
      rw [e]; exact h.key (i + 1) (by omega)
  · rw [hl] at hi hk
    rw [nd_erase, nd_erase] at e
    by_cases h1 : i ≤ j
    · by_cases h2 : k ≤ j
      · rw [if_pos h1, if_pos h2] at e; exact h.ne _ _ (by omega) (by omega) e
      · rw [if_pos h1, if_neg h2] at e; have := h.ne _ _ (by omega) (by omega) e; omega
    · by_cases h2 : k ≤ j
      · rw [if_neg h1, if_pos h2] at e; have := h.ne _ _ (by omega) (by omega) e; omega
      · rw [if_neg h1, if_neg h2] at e; have := h.ne _ _ (by omega) (by omega) e; omega
  · rw [hl] at hi
    rw [hs.fz, nd_erase]
    split
    · exact h.fz _ _ (by omega)
    · exact h.fz _ _ (by omega)
/-- A link that stands by itself. -/
structure Lone (w : World) (x : Nat) (k : ByteArray) : Prop where
  c0 : w.cell? ⟨x, 0, none⟩ = some (.string k)
  c1 : ∃ v, w.cell? ⟨x, 1, none⟩ = some v
  c2 : ∃ v, w.cell? ⟨x, 2, none⟩ = some v
  fz : ∀ j, w.frozen? ⟨x, j, none⟩ = false
/-- With one link more, the last one. -/
theorem Ring.enter (h : Ring w E L) {x : Nat} {k : ByteArray} (hx : Lone w x k) (hne : ∀ i, i ≤ L.length → nd E L i ≠ x) {W : World} (hW : Set2 ⟨x, 1, none⟩ ⟨x, 2, none⟩ (.pointer (some ⟨nd E L L.length, 0, none⟩)) (.pointer (some ⟨E, 0, none⟩)) w W)
    (hs : Set2 ⟨nd E L L.length, 2, none⟩ ⟨E, 1, none⟩ (.pointer (some ⟨x, 0, none⟩)) (.pointer (some ⟨x, 0, none⟩)) W w') : Ring w' E (L ++ [(x, k)]) := by
  have hl : (L ++ [(x, k)]).length = L.length + 1 := by simp
  have hE : E ≠ x := hne 0 (Nat.zero_le _)
  have hn : nd E L L.length ≠ x := hne _ (Nat.le_refl _)
  have n0 : ∀ i, i ≤ L.length → nd E (L ++ [(x, k)]) i = nd E L i := fun i hi => nd_append hi
  have n1 : nd E (L ++ [(x, k)]) (L.length + 1) = x := nd_append_last
  have n2 : nd E (L ++ [(x, k)]) (L.length + 2) = E := nd_end (by rw [hl]; omega)
  have lo : ∀ j, j ≠ 1 → j ≠ 2 → ∀ b, w'.cell? ⟨b, j, none⟩ = w.cell? ⟨b, j, none⟩ := fun j h1 h2 b => by
    rw [hs.ot _ (addr_ne (.inr h2)) (addr_ne (.inr h1)), hW.ot _ (addr_ne (.inr h1)) (addr_ne (.inr h2))]
  refine ⟨fun i hi => ?_, fun i hi => ?_, fun i hi => ?_, fun i j hi hj e => ?_, fun i j hi => ?_⟩
  · rw [hl] at hi
    by_cases h1 : i < L.length
    · rw [n0 i (by omega), n0 (i + 1) (by omega), hs.ot _ (addr_ne (.inl fun e => by have := h.ne i L.length (by omega) (by omega) e; omega)) (addr_ne (.inr (by decide))), hW.ot _ (addr_ne (.inr (by decide))) (addr_ne (.inl (hne i (by omega))))]
      exact h.up i (by omega)
    · by_cases h2 : i = L.length
      · rw [h2, n0 _ (Nat.le_refl _), n1]; exact hs.ca
      · have h3 : i = L.length + 1 := by omega
        rw [h3, n1, n2, hs.ot _ (addr_ne (.inl (Ne.symm hn))) (addr_ne (.inr (by decide)))]
        exact hW.cb
  · rw [hl] at hi
    by_cases h1 : i < L.length
    · rw [n0 i (by omega), n0 (i + 1) (by omega), hs.ot _ (addr_ne (.inr (by decide))) (addr_ne (.inl fun e => by have := h.ne (i + 1) 0 (by omega) (by omega) e; omega)), hW.ot _ (addr_ne (.inl (hne (i + 1) (by omega)))) (addr_ne (.inr (by decide)))]
      exact h.dn i (by omega)
    · by_cases h2 : i = L.length
      · rw [h2, n0 _ (Nat.le_refl _), n1, hs.ot _ (addr_ne (.inr (by decide))) (addr_ne (.inl (Ne.symm hE)))]; exact hW.ca
      · have h3 : i = L.length + 1 := by omega
        rw [h3, n1, n2]
        exact hs.cb
  · rw [lo 0 (by decide) (by decide)]
    rw [hl] at hi
    by_cases h1 : i < L.length
    · have e : (L ++ [(x, k)])[i] = L[i] := List.getElem_append_left h1
      rw [e]; exact h.key i h1
    · have h3 : i = L.length := by omega
      subst h3
      have e : (L ++ [(x, k)])[L.length] = (x, k) := by simp
      rw [e]; exact hx.c0
  · rw [hl] at hi hj
    by_cases h1 : i ≤ L.length
    · by_cases h2 : j ≤ L.length
      · rw [n0 i h1, n0 j h2] at e; exact h.ne i j h1 h2 e
      · have h3 : j = L.length + 1 := by omega
        rw [n0 i h1, h3, n1] at e; exact absurd e (hne i h1)
    · have h3 : i = L.length + 1 := by omega
      by_cases h2 : j ≤ L.length
      · rw [n0 j h2, h3, n1] at e; exact absurd e.symm (hne j h2)
      · omega
  · rw [hl] at hi
    rw [hs.fz, hW.fz]
    by_cases h1 : i ≤ L.length
    · rw [n0 i h1]; exact h.fz i j h1
    · have h3 : i = L.length + 1 := by omega
      rw [h3, n1]; exact hx.fz j
end
end Go.Proofs.YtmjlhmohglbecaaGreatDoor.Ca
/- Package recent: leave, enter. Conditions: a ring as it lies. -/
namespace Go.Proofs.YtmjlhmohglbecaaGreatDoor.Ca
open Go.ChangeShapes Go.WideShapes Go.ChangeAt Go.RowKit
set_option maxHeartbeats 4000000 in
set_option maxRecDepth 100000 in
theorem leave_walk (w : World) (x p s : Nat) (u v : Value) (c1 : w.cell? ⟨x, 1, none⟩ = some (.pointer (some ⟨p, 0, none⟩))) (c2 : w.cell? ⟨x, 2, none⟩ = some (.pointer (some ⟨s, 0, none⟩)))
    (cp : w.cell? ⟨p, 2, none⟩ = some u) (cs : w.cell? ⟨s, 1, none⟩ = some v) (fp : w.frozen? ⟨p, 2, none⟩ = false) (fs : w.frozen? ⟨s, 1, none⟩ = false) :
    Calls Tryz.prog 76 #[.pointer (some ⟨x, 0, none⟩)] w fun e w' => e = .returned (.tuple #[]) ∧ Set2 ⟨p, 2, none⟩ ⟨s, 1, none⟩ (.pointer (some ⟨s, 0, none⟩)) (.pointer (some ⟨p, 0, none⟩)) w w' := by
  have HS := Lib.hid (set2_of w (a := ⟨p, 2, none⟩) (b := ⟨s, 1, none⟩) (u := .pointer (some ⟨s, 0, none⟩)) (v := .pointer (some ⟨p, 0, none⟩)) (addr_ne (.inr (by decide))) cp cs)
  have HS' := Lib.hid (set2_of' w (a := ⟨p, 2, none⟩) (b := ⟨s, 1, none⟩) (u := .pointer (some ⟨s, 0, none⟩)) (v := .pointer (some ⟨p, 0, none⟩)) (addr_ne (.inr (by decide))) cp cs)
  go_enter Tryz.func76, Tryz.ntmps76
  go_wp2_with fail
  go_region
  all_goals (go_wp2_with fail; go_end0; first | exact ⟨rfl, HS.out.drew⟩ | exact ⟨rfl, HS'.out.drew⟩)
set_option maxHeartbeats 4000000 in
set_option maxRecDepth 100000 in
theorem enter_walk (w : World) (x E l : Nat) (u a b : Value) (hxE : x ≠ E) (hxl : x ≠ l) (cE : w.cell? ⟨E, 1, none⟩ = some (.pointer (some ⟨l, 0, none⟩))) (cl : w.cell? ⟨l, 2, none⟩ = some u) (c1 : w.cell? ⟨x, 1, none⟩ = some a) (c2 : w.cell? ⟨x, 2, none⟩ = some b)
    (f1 : w.frozen? ⟨x, 1, none⟩ = false) (f2 : w.frozen? ⟨x, 2, none⟩ = false) (fl : w.frozen? ⟨l, 2, none⟩ = false) (fE : w.frozen? ⟨E, 1, none⟩ = false) :
    Calls Tryz.prog 77 #[.pointer (some ⟨x, 0, none⟩), .pointer (some ⟨E, 0, none⟩)] w fun e w' => e = .returned (.tuple #[]) ∧ ∃ W, Set2 ⟨x, 1, none⟩ ⟨x, 2, none⟩ (.pointer (some ⟨l, 0, none⟩)) (.pointer (some ⟨E, 0, none⟩)) w W ∧ Set2 ⟨l, 2, none⟩ ⟨E, 1, none⟩ (.pointer (some ⟨x, 0, none⟩)) (.pointer (some ⟨x, 0, none⟩)) W w' := by
  have h1 := set2_of w (a := ⟨x, 1, none⟩) (b := ⟨x, 2, none⟩) (u := .pointer (some ⟨l, 0, none⟩)) (v := .pointer (some ⟨E, 0, none⟩)) (addr_ne (.inr (by decide))) c1 c2
  have H1 := Lib.hid h1
  clear h1
  go_enter Tryz.func77, Tryz.ntmps77
  go_wp2_with fail
  generalize (w.setCell ⟨x, 1, none⟩ (.pointer (some ⟨l, 0, none⟩))).setCell ⟨x, 2, none⟩ (.pointer (some ⟨E, 0, none⟩)) = W at *
  have d1 := H1.out.ca
  have d2 := H1.out.cb
  have dE := (H1.out.ot ⟨E, 1, none⟩ (addr_ne (.inl (Ne.symm hxE))) (addr_ne (.inl (Ne.symm hxE)))).trans cE
  have dl := (H1.out.ot ⟨l, 2, none⟩ (addr_ne (.inl (Ne.symm hxl))) (addr_ne (.inl (Ne.symm hxl)))).trans cl
  have gl := (H1.out.fz ⟨l, 2, none⟩).trans fl
  have gE := (H1.out.fz ⟨E, 1, none⟩).trans fE
  clear c1 c2 cE cl f1 f2 fl fE
  have HS := Lib.hid (set2_of W (a := ⟨l, 2, none⟩) (b := ⟨E, 1, none⟩) (u := .pointer (some ⟨x, 0, none⟩)) (v := .pointer (some ⟨x, 0, none⟩)) (addr_ne (.inr (by decide))) dl dE)
  have HS' := Lib.hid (set2_of' W (a := ⟨l, 2, none⟩) (b := ⟨E, 1, none⟩) (u := .pointer (some ⟨x, 0, none⟩)) (v := .pointer (some ⟨x, 0, none⟩)) (addr_ne (.inr (by decide))) dl dE)
  go_region
  all_goals (go_wp2_with fail; go_end0; first | exact ⟨rfl, W, H1.out, HS.out.drew⟩ | exact ⟨rfl, W, H1.out, HS'.out.drew⟩)
/-- leave, at a link of a ring. -/
theorem leave_calls {w : World} {E : Nat} {L : Lk} (h : Ring w E L) {j : Nat} (hj : j < L.length) :
    Calls Tryz.prog 76 #[.pointer (some ⟨L[j].1, 0, none⟩)] w fun e w' => e = .returned (.tuple #[]) ∧ Ring w' E (L.eraseIdx j) ∧ Lone w' L[j].1 L[j].2 ∧ Fr (fun i => i = nd E L j ∨ i = nd E L (j + 2)) w w' ∧ ∀ x, w'.frozen? x = w.frozen? x := by
  have e1 : nd E L (j + 1) = L[j].1 := nd_succ hj
  have hp : nd E L (j + 1) ≠ nd E L j := fun e => by have := h.ne _ _ (by omega) (by omega) e; omega
  have hs : nd E L (j + 1) ≠ nd E L (j + 2) := fun e => by have := h.ne1 (i := j) (j := j + 1) (by omega) (by omega) e; omega
  have c1 := h.dn j (by omega)
  have c2 := h.up (j + 1) (by omega)
  have fs : w.frozen? ⟨nd E L (j + 2), 1, none⟩ = false := by
    by_cases hl : j + 2 ≤ L.length
    · exact h.fz _ _ hl
    · rw [nd_end (by omega)]; exact h.fz 0 1 (Nat.zero_le _)
  have hw := leave_walk w (nd E L (j + 1)) (nd E L j) (nd E L (j + 2)) _ _ c1 c2 (h.up j (by omega)) (h.dn (j + 1) (by omega)) (h.fz j 2 (by omega)) fs
  rw [← e1]
  refine hw.mono ?_
  rintro e w' ⟨rfl, hS⟩
  have k0 := h.key j hj
  rw [← e1] at k0
  refine ⟨rfl, h.leave hj hS, ⟨?_, ⟨_, (hS.ot _ (addr_ne (.inl hp)) (addr_ne (.inl hs))).trans c1⟩, ⟨_, (hS.ot _ (addr_ne (.inl hp)) (addr_ne (.inl hs))).trans c2⟩, fun i => (hS.fz _).trans (h.fz _ _ (by omega))⟩, hS.fr, hS.fz⟩
  exact (hS.ot _ (addr_ne (.inl hp)) (addr_ne (.inl hs))).trans k0
/-- enter, of a link that stands by itself, ahead of the node of no key. -/
theorem enter_calls {w : World} {E : Nat} {L : Lk} (h : Ring w E L) {x : Nat} {k : ByteArray} (hx : Lone w x k) (hne : ∀ i, i ≤ L.length → nd E L i ≠ x) :
    Calls Tryz.prog 77 #[.pointer (some ⟨x, 0, none⟩), .pointer (some ⟨E, 0, none⟩)] w fun e w' => e = .returned (.tuple #[]) ∧ Ring w' E (L ++ [(x, k)]) ∧ Fr (fun i => i = x ∨ ∃ m, m ≤ L.length ∧ i = nd E L m) w w' ∧ ∀ x, w'.frozen? x = w.frozen? x := by
  obtain ⟨a, c1⟩ := hx.c1
  obtain ⟨b, c2⟩ := hx.c2
  have cE := h.dn L.length (Nat.le_refl _)
  rw [nd_end (Nat.lt_succ_self _)] at cE
  refine (enter_walk w x E (nd E L L.length) _ a b (Ne.symm (hne 0 (Nat.zero_le _))) (Ne.symm (hne _ (Nat.le_refl _))) cE (h.up _ (Nat.le_refl _)) c1 c2 (hx.fz 1) (hx.fz 2) (h.fz _ 2 (Nat.le_refl _)) (h.fz 0 1 (Nat.zero_le _))).mono ?_
  rintro e w' ⟨rfl, W, hW, hS⟩
  refine ⟨rfl, h.enter hx hne hW hS, (hW.fr.mono ?_).trans (hS.fr.mono ?_), fun a => (hS.fz a).trans (hW.fz a)⟩
  · rintro i (e | e) <;> exact .inl e
  · rintro i (e | e)
    · exact .inr ⟨_, Nat.le_refl _, e⟩
    · exact .inr ⟨0, Nat.zero_le _, e⟩
end Go.Proofs.YtmjlhmohglbecaaGreatDoor.Ca
/- Package recent: what the map says of the links; the object as it lies; New, Len, Has. Conditions: bounds on a key's length. -/
namespace Go.Proofs.YtmjlhmohglbecaaGreatDoor.Ca
open Go.ChangeShapes Go.WideShapes Go.ChangeAt Go.RowKit Go.Maps Go.WideMaps
def klit (k : ByteArray) : Lit := .string k.data.toList
theorem klit_ne {a b : ByteArray} (h : a ≠ b) : klit a ≠ klit b := fun e => h (by
  unfold klit at e
  injection e with e
  cases a; cases b
  simpa using e)
theorem klit_key (k : ByteArray) : WideAt.IsKeyLit (klit k) := True.intro
theorem keyed : Keyed Tryz.prog 9 := string_keyed Tryz.underlying9
theorem hkey {k : ByteArray} (h : k.size ≤ maxLen) : keyOf Tryz.prog 9 (.string k) = some (klit k) := keyOf_string_mk Tryz.underlying9 h
theorem zeroP (w : World) : (zeroValue 127).run Tryz.prog w = .ok (.pointer none) w := by kernel_rfl
/-- How a link's pointer reads here. -/
def ptrE : Value → Option (DataW Unit × List MemPlace)
  | .pointer none => some (.nil, [])
  | .pointer (some ⟨b, 0, none⟩) => some (.lit (.int .i64 b), [])
  | _ => none
def dat : Option Nat → DataW Unit
  | none => .nil
  | some b => .lit (.int .i64 b)
def ptr : Option Nat → Value
  | none => .pointer none
  | some b => .pointer (some ⟨b, 0, none⟩)
theorem ptrE_ptr (o : Option Nat) : ptrE (ptr o) = some (dat o, []) := by cases o <;> rfl
theorem ptrE_inv {v : Value} {o : Option Nat} {ps : List MemPlace} (h : ptrE v = some (dat o, ps)) : v = ptr o := by
  unfold ptrE at h
  split at h
  · cases o with
    | none => rfl
    | some b => have h := congrArg (fun x => x.map Prod.fst) h; simp [dat] at h
  · cases o with
    | none => have h := congrArg (fun x => x.map Prod.fst) h; simp [dat] at h
    | some b =>
      have h := congrArg (fun x => x.map Prod.fst) h
      simp [dat] at h
      have h : (_ : Nat) = b := Int.ofNat.inj h
      subst h; rfl
  · cases h
/-- The block of a key's link. -/
def look (L : Lk) (k : ByteArray) : Option Nat := (L.find? fun p => decide (p.2 = k)).map (·.1)
theorem look_none {L : Lk} {k : ByteArray} : look L k = none ↔ k ∉ L.map (·.2) := by
  unfold look
  rw [Option.map_eq_none_iff, List.find?_eq_none]
  simp only [decide_eq_true_eq, List.mem_map, not_exists, not_and]
theorem look_isSome {L : Lk} {k : ByteArray} : (look L k).isSome = inK k (L.map (·.2)) := by
  cases h : inK k (L.map (·.2)) with
  | true =>
    cases e : look L k with
    | none => exact absurd (inK_iff.1 h) (look_none.1 e)
    | some b => rfl
  | false => rw [look_none.2 (inK_false.1 h)]; rfl
theorem key_inj {L : Lk} (h : (L.map (·.2)).Nodup) {i j : Nat} (hi : i < L.length) (hj : j < L.length) (e : L[i].2 = L[j].2) : i = j := by
  have := (List.getElem_inj (h₀ := by rw [List.length_map]; exact hi) (h₁ := by rw [List.length_map]; exact hj) h (i := i) (j := j)).1 (by simpa using e)
  exact this
theorem look_at {L : Lk} (h : (L.map (·.2)).Nodup) {j : Nat} (hj : j < L.length) : look L L[j].2 = some L[j].1 := by
  unfold look
  cases e : L.find? fun p => decide (p.2 = L[j].2) with
  | none =>
    have := List.find?_eq_none.1 e L[j] (List.getElem_mem hj)
    simp at this
  | some q =>
    have h1 := List.find?_some e
    simp only [decide_eq_true_eq] at h1
    obtain ⟨i, hi, rfl⟩ := List.mem_iff_getElem.1 (List.mem_of_find?_eq_some e)
    have := key_inj h hi hj h1
    subst this; rfl
theorem look_idx {L : Lk} {k : ByteArray} {b : Nat} (h : look L k = some b) : ∃ j, ∃ hj : j < L.length, L[j] = (b, k) := by
  unfold look at h
  cases e : L.find? fun p => decide (p.2 = k) with
  | none => rw [e] at h; cases h
  | some q =>
    rw [e] at h
    cases h
    have h1 := List.find?_some e
    simp only [decide_eq_true_eq] at h1
    obtain ⟨i, hi, hq⟩ := List.mem_iff_getElem.1 (List.mem_of_find?_eq_some e)
    exact ⟨i, hi, by rw [hq]; cases q; cases h1; rfl⟩
theorem look_app {L : Lk} {k k' : ByteArray} {x : Nat} : look (L ++ [(x, k)]) k' = (look L k').or (if k' = k then some x else none) := by
  unfold look
  rw [List.find?_append, Option.map_or]
  congr 1
  by_cases h : k' = k
  · subst h; simp
  · rw [if_neg h, List.find?_cons_of_neg (by simpa using fun e => h e.symm)]; rfl
/-- The links without a key's. -/
def dropL (k : ByteArray) (L : Lk) : Lk := L.filter fun p => !decide (p.2 = k)
theorem dropL_map (k : ByteArray) (L : Lk) : (dropL k L).map (·.2) = dropK k (L.map (·.2)) := by
  unfold dropL dropK
  rw [List.filter_map]
  rfl
theorem dropL_erase : ∀ {L : Lk} (_h : (L.map (·.2)).Nodup) {j : Nat} (hj : j < L.length), dropL L[j].2 L = L.eraseIdx j
  | [], _, j, hj => absurd hj (Nat.not_lt_zero _)
  | x :: r, h, 0, hj => by
    have hx : x.2 ∉ r.map (·.2) := (List.nodup_cons.1 h).1
    show List.filter _ (x :: r) = r
    rw [List.filter_cons_of_neg (by simp)]
    refine List.filter_eq_self.2 fun q hq => ?_
    have : q.2 ≠ x.2 := fun e => hx (e ▸ List.mem_map_of_mem hq)
    simpa using this
  | x :: r, h, j + 1, hj => by
    have hx := List.nodup_cons.1 h
    have hjr : j < r.length := by simpa using hj
    have hne : x.2 ≠ r[j].2 := fun e => hx.1 (by show x.2 ∈ _; rw [e]; exact List.mem_map_of_mem (List.getElem_mem hjr))
    show List.filter _ (x :: r) = x :: r.eraseIdx j
    rw [List.filter_cons_of_pos (by simpa using hne)]
    exact congrArg _ (dropL_erase hx.2 hjr)
theorem dropL_none {L : Lk} {k : ByteArray} (h : look L k = none) : dropL k L = L := by
  refine List.filter_eq_self.2 fun q hq => ?_
  have : q.2 ≠ k := fun e => look_none.1 h (e ▸ List.mem_map_of_mem hq)
  simpa using this
theorem look_drop_same (k : ByteArray) (L : Lk) : look (dropL k L) k = none := by
  rw [look_none, dropL_map, mem_dropK]
  exact fun h => h.2 rfl
theorem look_drop_other {k k' : ByteArray} (h : k' ≠ k) (L : Lk) : look (dropL k L) k' = look L k' := by
  unfold look dropL
  rw [find_filter_keep (fun p hp => by
    have hp := of_decide_eq_true hp
    rw [hp]; simpa using h)]
/-- A map that says where each key's link is. -/
structure KI (L : Lk) (D : DataW Unit) : Prop where
  ti : Tidy D
  hs : ∀ k, Maps.has D (klit k) = (look L k).isSome
  av : ∀ k, D.atKey (klit k) .nil = dat (look L k)
  sz : Maps.size D = L.length
theorem KI.new : KI [] (.map []) := ⟨tidy_empty, fun _ => rfl, fun _ => rfl, rfl⟩
theorem KI.put {L : Lk} {D : DataW Unit} (h : KI L D) {k : ByteArray} (hk : look L k = none) (x : Nat) : KI (L ++ [(x, k)]) (D.put (klit k) (dat (some x))) := by
  refine ⟨h.ti.put (klit_key k) _, fun k' => ?_, fun k' => ?_, ?_⟩
  · rw [look_app]
    by_cases hkk : k' = k
    · subst hkk; rw [if_pos rfl, has_put_same h.ti.isMap (klit_key _), hk]; rfl
    · rw [if_neg hkk, has_put_other (klit_ne hkk), Option.or_none]; exact h.hs k'
  · rw [look_app]
    by_cases hkk : k' = k
    · subst hkk; rw [if_pos rfl, atKey_put_same h.ti.isMap (klit_key _), hk]; rfl
    · rw [if_neg hkk, atKey_put_other (klit_ne hkk), Option.or_none]; exact h.av k'
  · rw [size_put h.ti, h.hs, hk, if_neg (by decide), h.sz, List.length_append]; rfl
theorem KI.drop {L : Lk} {D : DataW Unit} (h : KI L D) (hn : (L.map (·.2)).Nodup) (k : ByteArray) : KI (dropL k L) (D.del (klit k)) := by
  refine ⟨h.ti.del _, fun k' => ?_, fun k' => ?_, ?_⟩
  · by_cases hkk : k' = k
    · subst hkk; rw [look_drop_same, has_del_same]; rfl
    · rw [look_drop_other hkk, has_del_other (klit_ne hkk)]; exact h.hs k'
  · by_cases hkk : k' = k
    · subst hkk; rw [look_drop_same, atKey_del_same]; rfl
    · rw [look_drop_other hkk, atKey_del_other (klit_ne hkk)]; exact h.av k'
  · have e := size_del (k := klit k) h.ti
    rw [h.hs, h.sz] at e
    cases hk : look L k with
    | none => rw [dropL_none hk]; rw [hk] at e; simpa using e
    | some b =>
      obtain ⟨j, hj, he⟩ := look_idx hk
      have e2 := dropL_erase hn hj
      rw [he] at e2
      rw [e2, List.length_eraseIdx_of_lt hj]
      rw [hk] at e
      simp at e
      omega
theorem KI.touch {L : Lk} {D : DataW Unit} (h : KI L D) (hn : (L.map (·.2)).Nodup) {k : ByteArray} {b : Nat} (hk : look L k = some b) : KI (dropL k L ++ [(b, k)]) D := by
  have e : ∀ k', look (dropL k L ++ [(b, k)]) k' = look L k' := fun k' => by
    rw [look_app]
    by_cases hkk : k' = k
    · subst hkk; rw [look_drop_same, if_pos rfl, hk]; rfl
    · rw [look_drop_other hkk, if_neg hkk, Option.or_none]
  refine ⟨h.ti, fun k' => by rw [e]; exact h.hs k', fun k' => by rw [e]; exact h.av k', ?_⟩
  obtain ⟨j, hj, he⟩ := look_idx hk
  have e2 := dropL_erase hn hj
  rw [he] at e2
  rw [e2, List.length_append, List.length_eraseIdx_of_lt hj, h.sz]
  show _ = _ + 1
  omega
theorem own_norm {H : Type} {P : Program} {k : TypeId} {R : Value → Option (DataW H × List MemPlace)} {w : World} {b n : Nat} {D : DataW H} (h : w.ownsMap P k R b n D) : w.ownsMap P k R b (Maps.size D) D := by
  obtain ⟨es, clock, hb, F, hs, rfl⟩ := h
  exact ⟨es, clock, hb, F, by rw [Maps.size_eq, length_read]; exact Nat.le_refl _, rfl⟩
theorem map_same {H : Type} {P : Program} {k : TypeId} {R : Value → Option (DataW H × List MemPlace)} {w w' : World} {b n : Nat} {D : DataW H} (h : w.ownsMap P k R b n D) (e : w'.heap[b]? = w.heap[b]?) : w'.ownsMap P k R b n D := by
  obtain ⟨es, clock, hb, F, hs, hD⟩ := h
  exact ⟨es, clock, e.trans hb, F, hs, hD⟩
theorem map_ne {H : Type} {P : Program} {k : TypeId} {R : Value → Option (DataW H × List MemPlace)} {w : World} {b n : Nat} {D : DataW H} (h : w.ownsMap P k R b n D) {x j : Nat} {v : Value} (hc : w.cell? ⟨x, j, none⟩ = some v) : x ≠ b := by
  rintro rfl
  obtain ⟨es, clock, hb, -⟩ := h
  simp [World.cell?, hb] at hc
/-- The object: block T; its map M; its ring. -/
structure RAt (w : World) (T M E : Nat) (L : Lk) (D : DataW Unit) : Prop where
  c0 : w.cell? ⟨T, 0, none⟩ = some (.map (some M))
  c1 : w.cell? ⟨T, 1, none⟩ = some (.pointer (some ⟨E, 0, none⟩))
  ft : ∀ j, w.frozen? ⟨T, j, none⟩ = false
  map : w.ownsMap Tryz.prog 9 ptrE M L.length D
  ki : KI L D
  ring : Ring w E L
  kn : (L.map (·.2)).Nodup
  tn : ∀ i, i ≤ L.length → nd E L i ≠ T
/-- The blocks of an object. -/
def own (T M E : Nat) (L : Lk) (x : Nat) : Prop := x = T ∨ x = M ∨ ∃ i, i ≤ L.length ∧ x = nd E L i
section
variable {w w' : World} {T M E : Nat} {L : Lk} {D : DataW Unit}
theorem RAt.lt (h : RAt w T M E L D) {x : Nat} (hx : own T M E L x) : x < w.heap.size := by
  rcases hx with rfl | rfl | ⟨i, hi, rfl⟩
  · exact World.block_lt_of_cell? w _ h.c0
  · exact h.map.lt
  · exact h.ring.lt hi
theorem RAt.keep (h : RAt w T M E L D) (hb : ∀ x, own T M E L x → w'.heap[x]? = w.heap[x]?) : RAt w' T M E L D := by
  have hT := hb T (.inl rfl)
  refine ⟨?_, ?_, fun j => (World.frozen?_of_block (a := ⟨T, j, none⟩) hT).trans (h.ft j), map_same h.map (hb M (.inr (.inl rfl))), h.ki, h.ring.keep fun i hi => hb _ (.inr (.inr ⟨i, hi, rfl⟩)), h.kn, h.tn⟩
  · exact (World.cell?_of_block (a := ⟨T, 0, none⟩) hT).trans h.c0
  · exact (World.cell?_of_block (a := ⟨T, 1, none⟩) hT).trans h.c1
theorem RAt.below (h : RAt w T M E L D) (hb : Below w.heap.size w w') : RAt w' T M E L D := h.keep fun x hx => hb.block x (h.lt hx)
theorem RAt.mt (h : RAt w T M E L D) : T ≠ M := map_ne h.map h.c0
theorem RAt.mn (h : RAt w T M E L D) {i : Nat} (hi : i ≤ L.length) : nd E L i ≠ M := map_ne h.map (h.ring.up i hi)
/-- 'r.links[k]', with 'ok', as an equation on the run. -/
theorem RAt.look_run (h : RAt w T M E L D) (k : ByteArray) (hk : k.size ≤ maxLen) : (Instr.lookup 129 (.map (some M)) (.string k) true).run Tryz.prog w = .ok (.tuple #[ptr (look L k), .bool (look L k).isSome]) w := by
  obtain ⟨v, ps, hrun, hv⟩ := h.map.look_ok (t := 129) (e := 127) keyed Tryz.underlying129 (zeroP _) (zd := .nil) (zp := []) rfl (key := .string k) (hkey hk)
  rw [h.ki.av] at hv
  rw [ptrE_inv hv, h.ki.hs] at hrun
  exact hrun
end
set_option maxHeartbeats 4000000 in
set_option maxRecDepth 100000 in
theorem len_calls {w : World} {T M E : Nat} {L : Lk} {D : DataW Unit} (h : RAt w T M E L D) :
    Calls Tryz.prog 167 #[.pointer (some ⟨T, 0, none⟩)] w fun e w' => e = .returned (.int .i64 L.length) ∧ w = w' := by
  have c0 := h.c0
  have hlen := fun ty => h.map.len (t := 129) (e := 127) Tryz.underlying129 ty
  rw [h.ki.sz] at hlen
  clear h
  go_enter Tryz.func167, Tryz.ntmps167
  go_wp2_with fail
  go_ret
  exact ⟨rfl, rfl⟩
set_option maxHeartbeats 4000000 in
set_option maxRecDepth 100000 in
theorem has_calls {w : World} {T M E : Nat} {L : Lk} {D : DataW Unit} (h : RAt w T M E L D) (k : ByteArray) (hk : k.size ≤ maxLen) :
    Calls Tryz.prog 62 #[.pointer (some ⟨T, 0, none⟩), .string k] w fun e w' => e = .returned (.bool (look L k).isSome) ∧ w = w' := by
  have c0 := h.c0
  have hrun := h.look_run k hk
  clear h
  generalize ptr (look L k) = v at *
  generalize (look L k).isSome = b at *
  go_enter Tryz.func62, Tryz.ntmps62
  go_wp2_with fail
  go_ret
  exact ⟨rfl, rfl⟩
end Go.Proofs.YtmjlhmohglbecaaGreatDoor.Ca
/- Package recent: Touch, Drop. Conditions: an object as it lies; bounds. -/
namespace Go.Proofs.YtmjlhmohglbecaaGreatDoor.Ca
open Go.ChangeShapes Go.WideShapes Go.ChangeAt Go.RowKit Go.Maps Go.WideMaps
/-- The object's own two cells, and its map. -/
structure Head (w : World) (T M E n : Nat) (D : DataW Unit) : Prop where
  c0 : w.cell? ⟨T, 0, none⟩ = some (.map (some M))
  c1 : w.cell? ⟨T, 1, none⟩ = some (.pointer (some ⟨E, 0, none⟩))
  ft : ∀ j, w.frozen? ⟨T, j, none⟩ = false
  map : w.ownsMap Tryz.prog 9 ptrE M n D
theorem Head.cells {w w' : World} {T M E n n' : Nat} {D D' : DataW Unit} (h : Head w T M E n D) (hT : w'.heap[T]? = w.heap[T]?) (hM : w'.ownsMap Tryz.prog 9 ptrE M n' D') : Head w' T M E n' D' :=
  ⟨(World.cell?_of_block (a := ⟨T, 0, none⟩) hT).trans h.c0, (World.cell?_of_block (a := ⟨T, 1, none⟩) hT).trans h.c1, fun j => (World.frozen?_of_block (a := ⟨T, j, none⟩) hT).trans (h.ft j), hM⟩
theorem Head.keep {w w' : World} {T M E n : Nat} {D : DataW Unit} (h : Head w T M E n D) (hT : w'.heap[T]? = w.heap[T]?) (hM : w'.heap[M]? = w.heap[M]?) : Head w' T M E n D := h.cells hT (map_same h.map hM)
theorem Head.lt {w : World} {T M E n : Nat} {D : DataW Unit} (h : Head w T M E n D) : T < w.heap.size := World.block_lt_of_cell? w _ h.c0
theorem Head.rat {w : World} {T M E n : Nat} {D : DataW Unit} (h : Head w T M E n D) {L : Lk} (hk : KI L D) (hr : Ring w E L) (hn : (L.map (·.2)).Nodup) (ht : ∀ i, i ≤ L.length → nd E L i ≠ T) : RAt w T M E L D :=
  ⟨h.c0, h.c1, h.ft, by have := own_norm h.map; rw [hk.sz] at this; exact this, hk, hr, hn, ht⟩
theorem RAt.head {w : World} {T M E : Nat} {L : Lk} {D : DataW Unit} (h : RAt w T M E L D) : Head w T M E L.length D := ⟨h.c0, h.c1, h.ft, h.map⟩
/-- What a call leaves: the object with other links; what it hasn't, stands. -/
structure Mv (T M E : Nat) (L : Lk) (w : World) (M' E' : Nat) (L' : Lk) (D' : DataW Unit) (w' : World) : Prop where
  at_ : RAt w' T M' E' L' D'
  fr : Fr (own T M E L) w w'
  own : ∀ x, own T M' E' L' x → own T M E L x ∨ w.heap.size ≤ x
theorem nd_in_erase {E : Nat} {L : Lk} {j i : Nat} (hj : j < L.length) (hi : i ≤ (L.eraseIdx j).length) : ∃ m, m ≤ L.length ∧ m ≠ j + 1 ∧ nd E (L.eraseIdx j) i = nd E L m := by
  rw [List.length_eraseIdx_of_lt hj] at hi
  rw [nd_erase]
  by_cases h : i ≤ j
  · exact ⟨i, by omega, by omega, if_pos h⟩
  · exact ⟨i + 1, by omega, by omega, if_neg h⟩
theorem nd_in_app {E : Nat} {L : Lk} {p : Nat × ByteArray} {i : Nat} (hi : i ≤ (L ++ [p]).length) : nd E (L ++ [p]) i = p.1 ∨ ∃ m, m ≤ L.length ∧ nd E (L ++ [p]) i = nd E L m := by
  simp only [List.length_append, List.length_singleton] at hi
  by_cases h : i ≤ L.length
  · exact .inr ⟨i, h, nd_append h⟩
  · have : i = L.length + 1 := by omega
    subst this
    exact .inl nd_append_last
theorem nodup_erase {L : Lk} (h : (L.map (·.2)).Nodup) (k : ByteArray) : ((dropL k L).map (·.2)).Nodup := by
  rw [dropL_map]; exact dropK_nodup h
theorem nodup_touch {L : Lk} (h : (L.map (·.2)).Nodup) (k : ByteArray) (x : Nat) : ((dropL k L ++ [(x, k)]).map (·.2)).Nodup := by
  rw [List.map_append, dropL_map]; exact touchK_nodup h
/-- What leave leaves of an object. -/
theorem leave_head {w w1 : World} {T M E : Nat} {L : Lk} {D : DataW Unit} (h : RAt w T M E L D) {j : Nat} (hj : j < L.length) (hf : Fr (fun i => i = nd E L j ∨ i = nd E L (j + 2)) w w1) : Head w1 T M E L.length D ∧ Fr (own T M E L) w w1 := by
  have s2 : ∃ m, m ≤ L.length ∧ nd E L (j + 2) = nd E L m := by
    by_cases hl : j + 2 ≤ L.length
    · exact ⟨_, hl, rfl⟩
    · exact ⟨0, Nat.zero_le _, nd_end (by omega)⟩
  obtain ⟨m, hm, e⟩ := s2
  rw [e] at hf
  refine ⟨h.head.keep (hf.block T h.head.lt ?_) (hf.block M h.map.lt ?_), hf.mono ?_⟩
  · rintro (e | e)
    · exact h.tn j (by omega) e.symm
    · exact h.tn m hm e.symm
  · rintro (e | e)
    · exact h.mn (i := j) (by omega) e.symm
    · exact h.mn hm e.symm
  · rintro i (e | e)
    · exact .inr (.inr ⟨j, by omega, e⟩)
    · exact .inr (.inr ⟨m, hm, e⟩)
set_option maxHeartbeats 4000000 in
set_option maxRecDepth 100000 in
theorem drop_some {w : World} {T M E : Nat} {L : Lk} {D : DataW Unit} (h : RAt w T M E L D) (j : Nat) (hj : j < L.length) (hk : L[j].2.size ≤ maxLen) :
    Calls Tryz.prog 84 #[.pointer (some ⟨T, 0, none⟩), .string L[j].2] w fun e w' => e = .returned (.bool true) ∧ Mv T M E L w M E (dropL L[j].2 L) (D.del (klit L[j].2)) w' := by
  have c0 := h.c0
  have hrun := h.look_run L[j].2 hk
  rw [look_at h.kn hj] at hrun
  have HK := Lib.hid hk
  have HL := Lib.hid (leave_calls h.ring hj)
  have HH := Lib.hid h
  clear h hk
  generalize hx : L[j].1 = x at *
  generalize hkk : L[j].2 = k at *
  go_enter Tryz.func84, Tryz.ntmps84
  simp only [ptr, Option.isSome_some] at hrun
  go_wp2_with fail
  refine HL.out.mono ?_; rintro en w1 ⟨rfl, hr1, -, hf1, -⟩
  have HR1 := Lib.hid hr1
  obtain ⟨hh1, hfr1⟩ := leave_head HH.out hj hf1
  have HH1 := Lib.hid hh1
  have HF1 := Lib.hid hfr1
  have d0 := hh1.c0
  have hm1 := Lib.hid hh1.map
  clear hr1 hh1 hf1 hfr1 hrun c0 HL
  go_wp2_with (at_delete; refine wpList_delete_own _ rfl _ _ _ _ rfl 127 keyed Tryz.underlying129 ptrE M L.length D rfl hm1.out _ _ rfl (hkey HK.out) ?_)
  intro w2 hm2 hg2
  have hg := hg2.grown
  go_wp2_with fail
  go_ret
  refine ⟨rfl, ?_, ?_, ?_⟩
  · have hT : w2.heap[T]? = w1.heap[T]? := hg.block T HH1.out.lt (fun e => HH.out.mt (by injection e))
    have e2 := dropL_erase HH.out.kn hj
    rw [hkk] at e2
    refine (HH1.out.cells hT hm2).rat (HH.out.ki.drop HH.out.kn k) ?_ (nodup_erase HH.out.kn k) ?_
    · rw [e2]
      refine HR1.out.keep fun i hi => ?_
      obtain ⟨m, hm, -, e⟩ := nd_in_erase (E := E) hj hi
      rw [e]
      exact hg.block _ (by rw [← e]; exact HR1.out.lt hi) (fun e => HH.out.mn hm (by injection e))
    · rw [e2]
      intro i hi
      obtain ⟨m, hm, -, e⟩ := nd_in_erase (E := E) hj hi
      rw [e]; exact HH.out.tn m hm
  · exact HF1.out.trans ⟨hg.os, hg.tape, hg.output, hg.size, fun i hi hn => hg.block i hi (fun e => hn (.inr (.inl (by injection e))))⟩
  · rintro y (e | e | ⟨i, hi, e⟩)
    · exact .inl (.inl e)
    · exact .inl (.inr (.inl e))
    · have e2 := dropL_erase HH.out.kn hj
      rw [hkk] at e2
      rw [e2] at hi e
      obtain ⟨m, hm, -, e3⟩ := nd_in_erase (E := E) hj hi
      exact .inl (.inr (.inr ⟨m, hm, by rw [e, e3]⟩))
theorem Mv.refl {w : World} {T M E : Nat} {L : Lk} {D : DataW Unit} (h : RAt w T M E L D) : Mv T M E L w M E L D w := ⟨h, ⟨rfl, rfl, rfl, Nat.le_refl _, fun _ _ _ => rfl⟩, fun _ hx => .inl hx⟩
set_option maxHeartbeats 4000000 in
set_option maxRecDepth 100000 in
theorem drop_none {w : World} {T M E : Nat} {L : Lk} {D : DataW Unit} (h : RAt w T M E L D) (k : ByteArray) (hk : k.size ≤ maxLen) (hl : look L k = none) :
    Calls Tryz.prog 84 #[.pointer (some ⟨T, 0, none⟩), .string k] w fun e w' => e = .returned (.bool false) ∧ w = w' := by
  have c0 := h.c0
  have hrun := h.look_run k hk
  rw [hl] at hrun
  clear h hl
  go_enter Tryz.func84, Tryz.ntmps84
  simp only [ptr, Option.isSome_none] at hrun
  go_wp2_with fail
  go_ret
  exact ⟨rfl, rfl⟩
theorem drop_calls {w : World} {T M E : Nat} {L : Lk} {D : DataW Unit} (h : RAt w T M E L D) (k : ByteArray) (hk : k.size ≤ maxLen) :
    Calls Tryz.prog 84 #[.pointer (some ⟨T, 0, none⟩), .string k] w fun e w' => e = .returned (.bool (inK k (L.map (·.2)))) ∧ ∃ D', Mv T M E L w M E (dropL k L) D' w' := by
  rw [← look_isSome]
  cases hl : look L k with
  | none =>
    refine (drop_none h k hk hl).mono ?_
    rintro e w' ⟨rfl, rfl⟩
    exact ⟨rfl, D, by rw [dropL_none hl]; exact Mv.refl h⟩
  | some b =>
    obtain ⟨j, hj, e⟩ := look_idx hl
    have e1 : L[j].2 = k := by rw [e]
    subst e1
    refine (drop_some h j hj hk).mono ?_
    rintro e w' ⟨rfl, hm⟩
    exact ⟨rfl, _, hm⟩
end Go.Proofs.YtmjlhmohglbecaaGreatDoor.Ca
/- Package recent: Touch, New, Clear. Conditions: an object as it lies; bounds. -/
namespace Go.Proofs.YtmjlhmohglbecaaGreatDoor.Ca
open Go.ChangeShapes Go.WideShapes Go.ChangeAt Go.RowKit Go.Maps Go.WideMaps
/-- What enter leaves of an object. -/
theorem enter_head {w w1 : World} {T M E n : Nat} {L : Lk} {D : DataW Unit} {x : Nat} (h : Head w T M E n D) (hT : x ≠ T) (hM : x ≠ M) (ht : ∀ i, i ≤ L.length → nd E L i ≠ T) (hm : ∀ i, i ≤ L.length → nd E L i ≠ M) (hf : Fr (fun i => i = x ∨ ∃ m, m ≤ L.length ∧ i = nd E L m) w w1) : Head w1 T M E n D := by
  refine h.keep (hf.block T h.lt ?_) (hf.block M h.map.lt ?_)
  · rintro (e | ⟨m, hl, e⟩)
    · exact hT e.symm
    · exact ht m hl e.symm
  · rintro (e | ⟨m, hl, e⟩)
    · exact hM e.symm
    · exact hm m hl e.symm
set_option maxHeartbeats 4000000 in
set_option maxRecDepth 100000 in
theorem touch_some {w : World} {T M E : Nat} {L : Lk} {D : DataW Unit} (h : RAt w T M E L D) (j : Nat) (hj : j < L.length) (hk : L[j].2.size ≤ maxLen) :
    Calls Tryz.prog 50 #[.pointer (some ⟨T, 0, none⟩), .string L[j].2] w fun e w' => e = .returned (.bool false) ∧ Mv T M E L w M E (dropL L[j].2 L ++ [(L[j].1, L[j].2)]) D w' := by
  have c0 := h.c0
  have hrun := h.look_run L[j].2 hk
  rw [look_at h.kn hj] at hrun
  have HK := Lib.hid hk
  have HL := Lib.hid (leave_calls h.ring hj)
  have HH := Lib.hid h
  have HX : Hid (nd E L (j + 1) = L[j].1) := Lib.hid (nd_succ hj)
  have HLA := Lib.hid (look_at h.kn hj)
  have HDE := Lib.hid (dropL_erase h.kn hj)
  clear h hk
  generalize L[j].1 = x at *
  generalize L[j].2 = k at *
  go_enter Tryz.func50, Tryz.ntmps50
  simp only [ptr, Option.isSome_some] at hrun
  go_wp2_with fail
  refine HL.out.mono ?_; rintro en w1 ⟨rfl, hr1, hl1, hf1, -⟩
  obtain ⟨hh1, hfr1⟩ := leave_head HH.out hj hf1
  have hne : ∀ i, i ≤ (L.eraseIdx j).length → nd E (L.eraseIdx j) i ≠ x := fun i hi e => by
    obtain ⟨m, hm, hmj, e2⟩ := nd_in_erase (E := E) hj hi
    rw [e2, ← HX.out] at e
    exact hmj (HH.out.ring.ne _ _ hm (by omega) e)
  have HE := Lib.hid (enter_calls hr1 hl1 hne)
  have HH1 := Lib.hid hh1
  have HF1 := Lib.hid hfr1
  have d1 := hh1.c1
  clear hr1 hh1 hf1 hfr1 hrun c0 HL hl1 hne
  go_wp2_with fail
  refine HE.out.mono ?_; rintro en w2 ⟨rfl, hr2, hf2, -⟩
  have HR2 := Lib.hid hr2
  have HF2 := Lib.hid hf2
  clear hr2 hf2 HE d1
  go_wp2_with fail
  go_ret
  have nin : ∀ i, i ≤ (L.eraseIdx j).length → ∃ m, m ≤ L.length ∧ nd E (L.eraseIdx j) i = nd E L m := fun i hi => by
    obtain ⟨m, hm, -, e⟩ := nd_in_erase (E := E) hj hi
    exact ⟨m, hm, e⟩
  have hxo : ∀ i, i ≤ (L.eraseIdx j ++ [(x, k)]).length → ∃ m, m ≤ L.length ∧ nd E (L.eraseIdx j ++ [(x, k)]) i = nd E L m := fun i hi => by
    rcases nd_in_app (E := E) hi with e | ⟨m, hm, e⟩
    · exact ⟨j + 1, by omega, by rw [e, HX.out]⟩
    · obtain ⟨m', hm', e'⟩ := nin m hm
      exact ⟨m', hm', by rw [e, e']⟩
  have h2 := enter_head HH1.out (x := x) (L := L.eraseIdx j) (by rw [← HX.out]; exact HH.out.tn _ (by omega)) (by rw [← HX.out]; exact HH.out.mn (by omega)) (fun i hi => by
    obtain ⟨m, hm, e⟩ := nin i hi
    rw [e]; exact HH.out.tn m hm) (fun i hi => by
    obtain ⟨m, hm, e⟩ := nin i hi
    rw [e]; exact HH.out.mn hm) HF2.out
  refine ⟨rfl, ?_, ?_, ?_⟩
  · refine h2.rat (HH.out.ki.touch HH.out.kn HLA.out) (by rw [HDE.out]; exact HR2.out) (nodup_touch HH.out.kn k x) ?_
    rw [HDE.out]
    intro i hi
    obtain ⟨m, hm, e⟩ := hxo i hi
    rw [e]; exact HH.out.tn m hm
  · refine HF1.out.trans (HF2.out.mono ?_)
    rintro i (e | ⟨m, hm, e⟩)
    · exact .inr (.inr ⟨j + 1, by omega, by rw [e, HX.out]⟩)
    · obtain ⟨m', hm', e'⟩ := nin m hm
      exact .inr (.inr ⟨m', hm', by rw [e, e']⟩)
  · rintro y (e | e | ⟨i, hi, e⟩)
    · exact .inl (.inl e)
    · exact .inl (.inr (.inl e))
    · rw [HDE.out] at hi e
      obtain ⟨m, hm, e3⟩ := hxo i hi
      exact .inl (.inr (.inr ⟨m, hm, by rw [e, e3]⟩))
set_option maxHeartbeats 4000000 in
set_option maxRecDepth 100000 in
theorem touch_none {w : World} {T M E : Nat} {L : Lk} {D : DataW Unit} (h : RAt w T M E L D) (k : ByteArray) (hk : k.size ≤ maxLen) (hl : look L k = none) (hlen : L.length < maxLen) :
    Calls Tryz.prog 50 #[.pointer (some ⟨T, 0, none⟩), .string k] w fun e w' => e = .returned (.bool true) ∧ Mv T M E L w M E (L ++ [(w.heap.size, k)]) (D.put (klit k) (dat (some w.heap.size))) w' := by
  have c0 := h.c0
  have hrun := h.look_run k hk
  rw [hl] at hrun
  have HK := Lib.hid hk
  have HH := Lib.hid h
  have HN := Lib.hid hl
  have HLn := Lib.hid hlen
  clear h hk hl hlen
  go_enter Tryz.func50, Tryz.ntmps50
  simp only [ptr, Option.isSome_none] at hrun
  have hbb := bbox (w := w) (.cells #[.string k, .pointer none, .pointer none] 133)
  have b0 : (w.alloc (.cells #[.string k, .pointer none, .pointer none] 133)).cell? ⟨T, 0, none⟩ = some (.map (some M)) := (hbb.cell (p := ⟨T, 0, none⟩) HH.out.head.lt).trans c0
  have HB := Lib.hid hbb
  have HLo : Hid (Lone (w.alloc (.cells #[.string k, .pointer none, .pointer none] 133)) w.heap.size k) := Lib.hid ⟨World.cell?_alloc_new w _ _ 0, ⟨_, World.cell?_alloc_new w _ _ 1⟩, ⟨_, World.cell?_alloc_new w _ _ 2⟩, fun j => by simp⟩
  clear hbb
  have hmap := Lib.hid (map_same HH.out.map (HB.out.block M HH.out.map.lt))
  go_wp2_with (at_mapUpdate; refine wpList_mapUpdate_own _ rfl _ _ _ _ rfl 9 127 keyed Tryz.underlying129 ptrE M L.length D rfl hmap.out HLn.out _ _ _ rfl rfl (hkey HK.out) (dat (some w.heap.size)) [] rfl ?_)
  intro w2 hm2 hg2
  have HG2 := Lib.hid hg2
  have HM2 := Lib.hid hm2
  clear hm2 hg2 b0 c0 hrun hmap
  have hb2 : ∀ y, y < w.heap.size → y ≠ M → w2.heap[y]? = w.heap[y]? := fun y hy hM => (HG2.out.block y (Nat.lt_of_lt_of_le hy HB.out.size) (fun e => hM (by injection e))).trans (HB.out.block y hy)
  have hr2 : Ring w2 E L := HH.out.ring.keep fun i hi => hb2 _ (HH.out.ring.lt hi) (HH.out.mn hi)
  have hh2 : Head w2 T M E (L.length + 1) (D.put (klit k) (dat (some w.heap.size))) := HH.out.head.cells (hb2 T HH.out.head.lt HH.out.mt) HM2.out
  have hsz : (w.alloc (.cells #[.string k, .pointer none, .pointer none] 133)).heap.size = w.heap.size + 1 := by simp
  have ex : w2.heap[w.heap.size]? = (w.alloc (.cells #[.string k, .pointer none, .pointer none] 133)).heap[w.heap.size]? := HG2.out.block _ (by rw [hsz]; omega) (fun e => by have h1 : M = w.heap.size := (by injection e with e; exact e.symm); have := HH.out.map.lt; omega)
  have ec : ∀ j, w2.cell? ⟨w.heap.size, j, none⟩ = (w.alloc (.cells #[.string k, .pointer none, .pointer none] 133)).cell? ⟨w.heap.size, j, none⟩ := fun j => World.cell?_of_block (a := ⟨w.heap.size, j, none⟩) ex
  obtain ⟨y1, k1⟩ := HLo.out.c1
  obtain ⟨y2, k2⟩ := HLo.out.c2
  have hl2 : Lone w2 w.heap.size k := ⟨(ec 0).trans HLo.out.c0, ⟨_, (ec 1).trans k1⟩, ⟨_, (ec 2).trans k2⟩, fun j => (World.frozen?_of_block (a := ⟨w.heap.size, j, none⟩) ex).trans (HLo.out.fz j)⟩
  have HE := Lib.hid (enter_calls hr2 hl2 (fun i hi e => by have := HH.out.ring.lt hi; omega))
  have HF2 : Hid (Fr (own T M E L) w w2) := Lib.hid ⟨HG2.out.os.trans HB.out.os, HG2.out.tape.trans HB.out.tape, HG2.out.output.trans HB.out.output, Nat.le_trans HB.out.size HG2.out.size, fun i hi hn => hb2 i hi (fun e => hn (.inr (.inl e)))⟩
  have HH2 := Lib.hid hh2
  have d1 := hh2.c1
  clear hh2 hl2 hr2 ex ec k1 k2 hsz hb2 HG2 HB HLo HM2
  go_wp2_with fail
  refine HE.out.mono ?_; rintro en w3 ⟨rfl, hr3, hf3, -⟩
  have HR3 := Lib.hid hr3
  have HF3 := Lib.hid hf3
  clear hr3 hf3 HE d1
  go_wp2_with fail
  go_ret
  have hT := HH.out.head.lt
  have hM := HH.out.map.lt
  have h3 := enter_head HH2.out (x := w.heap.size) (L := L) (by omega) (by omega) HH.out.tn (fun i hi => HH.out.mn hi) HF3.out
  refine ⟨rfl, ?_, ?_, ?_⟩
  · refine h3.rat (HH.out.ki.put HN.out _) HR3.out ?_ ?_
    · rw [List.map_append, List.nodup_append]
      refine ⟨HH.out.kn, by simp, fun a ha b hb e => ?_⟩
      simp at hb
      exact look_none.1 HN.out (by rw [← hb, ← e]; exact ha)
    · intro i hi
      rcases nd_in_app (E := E) hi with e | ⟨m, hm, e⟩
      · rw [e]; exact fun e => by simp at e; omega
      · rw [e]; exact HH.out.tn m hm
  · refine HF2.out.trans2 HF3.out ?_
    rintro i hi (e | ⟨m, hm, e⟩)
    · omega
    · exact .inr (.inr ⟨m, hm, e⟩)
  · rintro y (e | e | ⟨i, hi, e⟩)
    · exact .inl (.inl e)
    · exact .inl (.inr (.inl e))
    · rcases nd_in_app (E := E) hi with e2 | ⟨m, hm, e2⟩
      · exact .inr (by rw [e, e2]; exact Nat.le_refl _)
      · exact .inl (.inr (.inr ⟨m, hm, by rw [e, e2]⟩))
theorem touch_calls {w : World} {T M E : Nat} {L : Lk} {D : DataW Unit} (h : RAt w T M E L D) (k : ByteArray) (hk : k.size ≤ maxLen) (hlen : L.length < maxLen) :
    Calls Tryz.prog 50 #[.pointer (some ⟨T, 0, none⟩), .string k] w fun e w' => e = .returned (.bool (!inK k (L.map (·.2)))) ∧ ∃ x D', Mv T M E L w M E (dropL k L ++ [(x, k)]) D' w' := by
  rw [← look_isSome]
  cases hl : look L k with
  | none =>
    refine (touch_none h k hk hl hlen).mono ?_
    rintro e w' ⟨rfl, hm⟩
    exact ⟨rfl, _, _, by rw [dropL_none hl]; exact hm⟩
  | some b =>
    obtain ⟨j, hj, e⟩ := look_idx hl
    have e1 : L[j].2 = k := by rw [e]
    subst e1
    refine (touch_some h j hj hk).mono ?_
    rintro e w' ⟨rfl, hm⟩
    exact ⟨rfl, _, _, hm⟩
theorem new_at (w : World) (N : Nat) (hN : N = w.heap.size) : RAt (((w.alloc (.cells #[.string ⟨#[]⟩, .pointer (some ⟨N, 0, none⟩), .pointer (some ⟨N, 0, none⟩)] 133)).alloc (.map #[] 0)).alloc (.cells #[.map (some (N + 1)), .pointer (some ⟨N, 0, none⟩)] 131)) (N + 1 + 1) (N + 1) N [] (.map []) ∧
    Below w.heap.size w (((w.alloc (.cells #[.string ⟨#[]⟩, .pointer (some ⟨N, 0, none⟩), .pointer (some ⟨N, 0, none⟩)] 133)).alloc (.map #[] 0)).alloc (.cells #[.map (some (N + 1)), .pointer (some ⟨N, 0, none⟩)] 131)) := by
  have c1 := fun j => World.cell?_alloc_new w #[.string ⟨#[]⟩, .pointer (some ⟨N, 0, none⟩), .pointer (some ⟨N, 0, none⟩)] 133 j
  have f1 : ∀ j, (w.alloc (.cells #[.string ⟨#[]⟩, .pointer (some ⟨N, 0, none⟩), .pointer (some ⟨N, 0, none⟩)] 133)).frozen? ⟨w.heap.size, j, none⟩ = false := fun j => by simp
  have s1 : (w.alloc (.cells #[.string ⟨#[]⟩, .pointer (some ⟨N, 0, none⟩), .pointer (some ⟨N, 0, none⟩)] 133)).heap.size = w.heap.size + 1 := by simp
  have B1 := bbox (w := w) (.cells #[.string ⟨#[]⟩, .pointer (some ⟨N, 0, none⟩), .pointer (some ⟨N, 0, none⟩)] 133)
  generalize w.alloc (.cells #[.string ⟨#[]⟩, .pointer (some ⟨N, 0, none⟩), .pointer (some ⟨N, 0, none⟩)] 133) = W1 at *
  have m2 := World.ownsMap_made W1 Tryz.prog 9 ptrE
  have s2 : (W1.alloc (.map #[] 0)).heap.size = W1.heap.size + 1 := by simp
  have B2 := bbox (w := W1) (.map #[] 0)
  generalize W1.alloc (.map #[] 0) = W2 at *
  have c3 := fun j => World.cell?_alloc_new W2 #[.map (some (N + 1)), .pointer (some ⟨N, 0, none⟩)] 131 j
  have f3 : ∀ j, (W2.alloc (.cells #[.map (some (N + 1)), .pointer (some ⟨N, 0, none⟩)] 131)).frozen? ⟨W2.heap.size, j, none⟩ = false := fun j => by simp
  have B3 := bbox (w := W2) (.cells #[.map (some (N + 1)), .pointer (some ⟨N, 0, none⟩)] 131)
  generalize W2.alloc (.cells #[.map (some (N + 1)), .pointer (some ⟨N, 0, none⟩)] 131) = W3 at *
  rw [s2, s1, ← hN] at c3 f3
  rw [s1, ← hN] at m2
  rw [← hN] at c1 f1
  have B23 : Below W1.heap.size W1 W3 := bstep B2 B3
  have e1 : ∀ j, W3.cell? ⟨N, j, none⟩ = W1.cell? ⟨N, j, none⟩ := fun j => B23.cell (p := ⟨N, j, none⟩) (by show N < _; omega)
  have e2 : ∀ j, W3.frozen? ⟨N, j, none⟩ = W1.frozen? ⟨N, j, none⟩ := fun j => B23.frozen (p := ⟨N, j, none⟩) (by show N < _; omega)
  refine ⟨⟨c3 0, c3 1, f3, map_same m2 (B3.block _ (by omega)), KI.new, ⟨fun i hi => ?_, fun i hi => ?_, fun i hi => absurd hi (Nat.not_lt_zero _), fun i j hi hj _ => ?_, fun i j hi => ?_⟩, List.nodup_nil, fun i hi e => ?_⟩, bstep (bstep B1 B2) B3⟩
  · obtain rfl : i = 0 := by simpa using hi
    rw [nd_zero, nd_end (by decide), e1]; exact c1 2
  · obtain rfl : i = 0 := by simpa using hi
    rw [nd_zero, nd_end (by decide), e1]; exact c1 1
  · simp at hi hj; omega
  · obtain rfl : i = 0 := by simpa using hi
    rw [nd_zero, e2]; exact f1 j
  · obtain rfl : i = 0 := by simpa using hi
    rw [nd_zero] at e; omega
set_option maxHeartbeats 4000000 in
set_option maxRecDepth 100000 in
theorem new_calls (w : World) :
    Calls Tryz.prog 55 #[] w fun e w' => ∃ T M E, e = .returned (.pointer (some ⟨T, 0, none⟩)) ∧ RAt w' T M E [] (.map []) ∧ Below w.heap.size w w' ∧ ∀ x, own T M E [] x → w.heap.size ≤ x := by
  have hmm := @run_makeMap Tryz.prog
  go_enter Tryz.func55, Tryz.ntmps55
  go_wp2_with fail
  go_ret
  obtain ⟨h1, h2⟩ := new_at w w.heap.size rfl
  refine ⟨_, _, _, rfl, h1, h2, ?_⟩
  rintro x (rfl | rfl | ⟨i, hi, rfl⟩)
  · omega
  · omega
  · obtain rfl : i = 0 := by simpa using hi
    exact Nat.le_refl _
end Go.Proofs.YtmjlhmohglbecaaGreatDoor.Ca
/- Package recent: Clear, Oldest. Conditions: an object as it lies; bounds. -/
namespace Go.Proofs.YtmjlhmohglbecaaGreatDoor.Ca
open Go.ChangeShapes Go.WideShapes Go.ChangeAt Go.RowKit Go.Maps Go.WideMaps
theorem cells_of {w : World} {a j : Nat} {v : Value} (h : w.cell? ⟨a, j, none⟩ = some v) : ∃ c t f, w.heap[a]? = some (.cells c t f) := by
  unfold World.cell? at h
  split at h
  · rename_i e; exact ⟨_, _, _, e⟩
  · cases h
/-- Two pointers to blocks that differ, none of them frozen, differ. -/
theorem run_sameAddr_apart {P : Program} (w : World) {a b j i : Nat} {u v : Value} (hne : a ≠ b) (ha : w.cell? ⟨a, j, none⟩ = some u) (hb : w.cell? ⟨b, i, none⟩ = some v) (fa : ∀ n, w.frozen? ⟨a, n, none⟩ = false) (fb : ∀ n, w.frozen? ⟨b, n, none⟩ = false) :
    (sameAddr ⟨a, 0, none⟩ ⟨b, 0, none⟩).run P w = .ok false w := by
  obtain ⟨ca, ta, fra, ea⟩ := cells_of ha
  obtain ⟨cb, tb, frb, eb⟩ := cells_of hb
  simp [sameAddr, hne, fa, fb, ea, eb, noView, viewAt, World.shape?, mayBeOne, stringish]
theorem iLink : ∃ j, Tryz.prog.info? 133 = some j ∧ j.size ≠ 0 := by
  have h : (Tryz.prog.info? 133).any (fun j => j.size != 0) = true := by kernel_rfl
  cases e : Tryz.prog.info? 133 with
  | none => rw [e] at h; cases h
  | some j => rw [e] at h; exact ⟨j, rfl, by simpa using h⟩
theorem neqP (w : World) {a b j i : Nat} {u v : Value} (hne : a ≠ b) (ha : w.cell? ⟨a, j, none⟩ = some u) (hb : w.cell? ⟨b, i, none⟩ = some v) (fa : ∀ n, w.frozen? ⟨a, n, none⟩ = false) (fb : ∀ n, w.frozen? ⟨b, n, none⟩ = false) :
    (binOp .neq 127 (.pointer (some ⟨a, 0, none⟩)) (.pointer (some ⟨b, 0, none⟩))).run Tryz.prog w = .ok (.bool true) w := by
  obtain ⟨q, hq, hz⟩ := iLink
  have hu := Tryz.underlying127
  have h : ∀ d : Nat, (Op.equalIn (d + 1) 127 (.pointer (some ⟨a, 0, none⟩)) (.pointer (some ⟨b, 0, none⟩))).run Tryz.prog w = .ok false w := fun d => by
    simp [Op.equalIn, run_underlying hu, sizeOf, typeInfo, hq, hz, run_sameAddr_apart w hne ha hb fa fb]
  simp only [binOp]
  simp [Op.equal, Op.maxDepth, h 9999]
theorem eqlP (w : World) (a : Nat) : (binOp .neq 127 (.pointer (some ⟨a, 0, none⟩)) (.pointer (some ⟨a, 0, none⟩))).run Tryz.prog w = .ok (.bool false) w := by
  obtain ⟨q, hq, -⟩ := iLink
  have hu := Tryz.underlying127
  have h : ∀ d : Nat, (Op.equalIn (d + 1) 127 (.pointer (some ⟨a, 0, none⟩)) (.pointer (some ⟨a, 0, none⟩))).run Tryz.prog w = .ok true w := fun d => by
    simp [Op.equalIn, run_underlying hu, sizeOf, typeInfo, hq, run_sameAddr_same]
  simp only [binOp]
  simp [Op.equal, Op.maxDepth, h 9999]
theorem beq_eq {x y : ByteArray} (h : x = y) : (x.toList == y.toList) = true := by rw [h]; exact beq_self_eq_true _
theorem ba_inj {x y : ByteArray} (h : x.toList = y.toList) : x = y := by
  rw [ByteArray.toList_eq, ByteArray.toList_eq] at h
  obtain ⟨x⟩ := x
  obtain ⟨y⟩ := y
  exact congrArg ByteArray.mk (Array.toList_inj.1 h)
theorem beq_ne {x y : ByteArray} (h : x ≠ y) : (x.toList == y.toList) = false := by
  rw [beq_eq_false_iff_ne]; exact fun e => h (ba_inj e)
theorem oldK_at {l : List ByteArray} {but : ByteArray} {j : Nat} (hj : j < l.length) (h : ∀ m (hm : m < l.length), m < j → l[m] = but) (hn : l[j] ≠ but) : oldK but l = some l[j] := by
  unfold oldK
  rw [List.find?_eq_some_iff_getElem]
  refine ⟨by simpa using hn, j, hj, rfl, fun m hm => ?_⟩
  simp [h m (by omega) hm]
theorem oldK_end {l : List ByteArray} {but : ByteArray} (h : ∀ m (hm : m < l.length), l[m] = but) : oldK but l = none := by
  unfold oldK
  rw [List.find?_eq_none]
  intro x hx
  obtain ⟨i, hi, rfl⟩ := List.mem_iff_getElem.1 hx
  simp [h i hi]
set_option maxHeartbeats 4000000 in
set_option maxRecDepth 100000 in
theorem oldest_calls {w : World} {T M E : Nat} {L : Lk} {D : DataW Unit} (h : RAt w T M E L D) (but : ByteArray) (o : Option ByteArray) (ho : Hid (oldK but (L.map (·.2)) = o)) :
    Calls Tryz.prog 79 #[.pointer (some ⟨T, 0, none⟩), .string but] w fun e w' => e = .returned (.tuple #[.string (o.getD ⟨#[]⟩), .bool o.isSome]) ∧ w = w' := by
  have d1 := h.c1
  have HH := Lib.hid h
  have e0 := h.ring.up 0 (Nat.zero_le _)
  rw [nd_zero] at e0
  clear h
  go_enter Tryz.func79, Tryz.ntmps79
  go_wp2_with fail
  go_loopg [6] (L.length + 1) (fun g vi wr => ∃ i : Nat, vi = .pointer (some ⟨nd E L (i + 1), 0, none⟩) ∧ i ≤ L.length ∧ L.length - i ≤ g ∧ Hid (∀ m (hm : m < (L.map (·.2)).length), m < i → (L.map (·.2))[m] = but) ∧ w = wr)
  case atStart => exact ⟨0, rfl, Nat.zero_le _, by omega, Lib.hid (fun _ _ h => absurd h (Nat.not_lt_zero _)), rfl⟩
  case round =>
    obtain ⟨i, rfl, hi, hg, HI, rfl⟩ := hrel
    by_cases hil : i < L.length
    case pos =>
      have hx := nd_succ (E := E) hil
      have hne : nd E L (i + 1) ≠ E := fun e => by have := HH.out.ring.ne (i + 1) 0 (by omega) (by omega) e; omega
      have k0 := HH.out.ring.key i hil
      have k2 := HH.out.ring.up (i + 1) (by omega)
      rw [← hx] at k0
      have HX := Lib.hid hx
      have hnq := neqP w hne k2 e0 (fun n => HH.out.ring.fz _ n (by omega)) (fun n => HH.out.ring.fz 0 n (Nat.zero_le _))
      have hil2 : i < (L.map (·.2)).length := by rw [List.length_map]; exact hil
      have HK : Hid ((L.map (·.2))[i]'hil2 = L[i].2) := Lib.hid (by simp)
      clear hx
      generalize hkk : L[i].2 = k at *
      have HK := Lib.hid HK.out
      clear hkk
      by_cases hb : k = but
      case pos =>
        have hbe := beq_eq hb
        go_wp2_with fail
        go_roundg (gk - 1)
        case measure => omega
        case rel => exact ⟨i + 1, rfl, by omega, by omega, Lib.hid (fun m hm hlt => by
          by_cases hmi : m = i
          · subst hmi; rw [HK.out, hb]
          · exact HI.out m hm (by omega)), rfl⟩
      case neg =>
        have hbe := beq_ne hb
        go_wp2_with fail
        go_ret2
        have e := oldK_at hil2 (fun m hm hlt => HI.out m hm hlt) (by rw [HK.out]; exact hb)
        rw [HK.out, ho.out] at e
        subst e
        exact ⟨rfl, rfl⟩
    case neg =>
      have hx : nd E L (i + 1) = E := nd_end (by omega)
      rw [hx]
      have hnq := eqlP w E
      go_wp2_with fail
      go_ret2
      have e := oldK_end (l := L.map (·.2)) (but := but) (fun m hm => HI.out m hm (by rw [List.length_map] at hm; omega))
      rw [ho.out] at e
      subst e
      exact ⟨rfl, rfl⟩
end Go.Proofs.YtmjlhmohglbecaaGreatDoor.Ca
