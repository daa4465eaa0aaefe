/- Package recent: what of memory stands (Fr); two cells written; the ring as it lies, without one, with one more. No program's walk, no condition. -/
import Derived.Test.YtkpcobaklbfpcaaCa1
import Derived.Test.YtkpcobaklbfpcaaRows
import Derived.WalkKit
import Derived.ProofKit
import Derived.OpenShut
import Derived.WalkSmall
import Derived.WalkSpells
import Derived.WalkLawsBesides
import Derived.Outline
import Derived.Lib.Hide
import Derived.Deep.RegionWith
import Derived.Deep.LoopGhost
import Derived.OwnWalk
import Derived.IntWalk
import Derived.Laws.AppendOwn
import Derived.Laws.IdiomStrings
import Derived.Lib.Strings
import Derived.Maps.OwnSet
import Derived.Deep.QuietTactic
import Derived.BigQuiet
namespace Go.Proofs.Ytkpcobaklbfpcaa.Ca
open Go.ChangeShapes Go.WideShapes Go.ChangeAt Go.RowKit
theorem bstep {a b c : World} (h : Below a.heap.size a b) (k : Below b.heap.size b c) : Below a.heap.size a c := h.trans (k.mono h.size)
theorem bbox {w : World} (o : Obj) : Below w.heap.size w (w.alloc o) := (Below.refl _ _).alloc (Nat.le_refl _) o
theorem addr_ne {b c i j : Nat} (h : b ≠ c ∨ i ≠ j) : (⟨b, i, none⟩ : Addr) ≠ ⟨c, j, none⟩ := by
  intro e
  injection e with e1 e2
  rcases h with h | h
  · exact h e1
  · exact h e2
/-- Of w all blocks stand in w' but those that S names; no cell is frozen or thawed. -/
structure Fr (S : Nat → Prop) (w w' : World) : Prop where
  os : w'.os = w.os
  tape : w'.tape = w.tape
  output : w'.output = w.output
  size : w.heap.size ≤ w'.heap.size
  block : ∀ i, i < w.heap.size → ¬ S i → w'.heap[i]? = w.heap[i]?
section
variable {S T : Nat → Prop} {a b c w w' : World}
theorem Fr.below {B : Nat} (h : Fr S w w') (hB : B ≤ w.heap.size) (hS : ∀ i, i < B → ¬ S i) : Below B w w' := ⟨h.os, h.tape, h.output, h.size, fun i hi => h.block i (Nat.lt_of_lt_of_le hi hB) (hS i hi)⟩
theorem Fr.of_below (h : Below w.heap.size w w') : Fr S w w' := ⟨h.os, h.tape, h.output, h.size, fun i hi _ => h.block i hi⟩
theorem Fr.trans (h : Fr S a b) (k : Fr S b c) : Fr S a c :=
  ⟨k.os.trans h.os, k.tape.trans h.tape, k.output.trans h.output, Nat.le_trans h.size k.size, fun i hi hs => (k.block i (Nat.lt_of_lt_of_le hi h.size) hs).trans (h.block i hi hs)⟩
theorem Fr.mono (h : Fr S a b) (hST : ∀ i, S i → T i) : Fr T a b := ⟨h.os, h.tape, h.output, h.size, fun i hi hs => h.block i hi fun hx => hs (hST i hx)⟩
/-- .. where what is named more lies behind a. -/
theorem Fr.mono2 (h : Fr S a b) (hST : ∀ i, i < a.heap.size → S i → T i) : Fr T a b := ⟨h.os, h.tape, h.output, h.size, fun i hi hs => h.block i hi fun hx => hs (hST i hi hx)⟩
theorem Fr.trans2 (h : Fr S a b) (k : Fr T b c) (hST : ∀ i, i < a.heap.size → T i → S i) : Fr S a c :=
  ⟨k.os.trans h.os, k.tape.trans h.tape, k.output.trans h.output, Nat.le_trans h.size k.size, fun i hi hs => (k.block i (Nat.lt_of_lt_of_le hi h.size) (fun ht => hs (hST i hi ht))).trans (h.block i hi hs)⟩
theorem Fr.setCell (w : World) (p : Addr) (hp : S p.block) (v : Value) : Fr S w (w.setCell p v) := by
  have h := Below.setCell (p := p) (Below.refl p.block w) (Nat.le_refl _) v
  exact ⟨h.os, h.tape, h.output, h.size, fun i _ hs => Below.heap_setCell w p v i (fun e => hs (e ▸ hp))⟩
theorem Fr.drew (w : World) : Fr S w w.drew := ⟨rfl, rfl, rfl, Nat.le_refl _, fun _ _ _ => rfl⟩
theorem Fr.cell (h : Fr S w w') {x j : Nat} {v : Value} (hx : ¬ S x) (hc : w.cell? ⟨x, j, none⟩ = some v) : w'.cell? ⟨x, j, none⟩ = some v := by
  have := h.block x (World.block_lt_of_cell? w _ hc) hx
  simp only [World.cell?, this] at hc ⊢
  exact hc
theorem Fr.frozen (h : Fr S w w') {x j : Nat} (hx : ¬ S x) (hl : x < w.heap.size) : w'.frozen? ⟨x, j, none⟩ = w.frozen? ⟨x, j, none⟩ := World.frozen?_of_block (a := ⟨x, j, none⟩) (h.block x hl hx)
end
/-- Two cells hold other values now; all others, and what is frozen, stand. -/
structure Set2 (a b : Addr) (u v : Value) (w w' : World) : Prop where
  ca : w'.cell? a = some u
  cb : w'.cell? b = some v
  ot : ∀ x, x ≠ a → x ≠ b → w'.cell? x = w.cell? x
  fz : ∀ x, w'.frozen? x = w.frozen? x
  fr : Fr (fun i => i = a.block ∨ i = b.block) w w'
theorem set2_of (w : World) {a b : Addr} {u v x y : Value} (hne : a ≠ b) (ha : w.cell? a = some x) (hb : w.cell? b = some y) : Set2 a b u v w ((w.setCell a u).setCell b v) := by
  refine ⟨?_, ?_, fun z h1 h2 => ?_, fun z => ?_, (Fr.setCell w a (.inl rfl) u).trans (Fr.setCell _ b (.inr rfl) v)⟩
  · rw [World.cell?_setCell_other _ _ _ _ (Ne.symm hne)]
    exact World.cell?_setCell_same w a u ha
  · exact World.cell?_setCell_same _ b v ((World.cell?_setCell_other _ _ _ _ hne).trans hb)
  · rw [World.cell?_setCell_other _ _ _ _ (Ne.symm h2), World.cell?_setCell_other _ _ _ _ (Ne.symm h1)]
  · rw [World.frozen?_setCell, World.frozen?_setCell]
theorem set2_of' (w : World) {a b : Addr} {u v x y : Value} (hne : a ≠ b) (ha : w.cell? a = some x) (hb : w.cell? b = some y) : Set2 a b u v w ((w.setCell b v).setCell a u) := by
  have h := set2_of w (u := v) (v := u) (Ne.symm hne) hb ha
  exact ⟨h.cb, h.ca, fun z h1 h2 => h.ot z h2 h1, h.fz, h.fr.mono fun i => Or.symm⟩
theorem Set2.drew {a b : Addr} {u v : Value} {w w' : World} (h : Set2 a b u v w w') : Set2 a b u v w w'.drew := ⟨h.ca, h.cb, h.ot, h.fz, h.fr.trans (Fr.drew w')⟩
/-- A ring as it lies: node 0 is of no key; of each link its key. -/
structure Ring (w : World) (E : Nat) (L : Lk) : Prop where
  up : ∀ i, i ≤ L.length → w.cell? ⟨nd E L i, 2, none⟩ = some (.pointer (some ⟨nd E L (i + 1), 0, none⟩))
  dn : ∀ i, i ≤ L.length → w.cell? ⟨nd E L (i + 1), 1, none⟩ = some (.pointer (some ⟨nd E L i, 0, none⟩))
  key : ∀ i (h : i < L.length), w.cell? ⟨L[i].1, 0, none⟩ = some (.string L[i].2)
  ne : ∀ i j, i ≤ L.length → j ≤ L.length → nd E L i = nd E L j → i = j
  fz : ∀ i j, i ≤ L.length → w.frozen? ⟨nd E L i, j, none⟩ = false
section
variable {w w' : World} {E : Nat} {L : Lk}
theorem Ring.lt (h : Ring w E L) {i : Nat} (hi : i ≤ L.length) : nd E L i < w.heap.size := World.block_lt_of_cell? w _ (h.up i hi)
theorem Ring.ne1 (h : Ring w E L) {i j : Nat} (hi : i ≤ L.length) (hj : j ≤ L.length) (e : nd E L (i + 1) = nd E L (j + 1)) : i = j := by
  by_cases h1 : i = L.length
  · by_cases h2 : j = L.length
    · omega
    · rw [h1, nd_end (Nat.lt_succ_self _)] at e
      have := h.ne 0 (j + 1) (by omega) (by omega) e
      omega
  · by_cases h2 : j = L.length
    · rw [h2, nd_end (Nat.lt_succ_self _)] at e
      have := h.ne (i + 1) 0 (by omega) (by omega) e
      omega
    · have := h.ne (i + 1) (j + 1) (by omega) (by omega) e
      omega
/-- What touches no node's block. -/
theorem Ring.keep (h : Ring w E L) (hb : ∀ i, i ≤ L.length → w'.heap[nd E L i]? = w.heap[nd E L i]?) : Ring w' E L := by
  have c : ∀ i j, i ≤ L.length → w'.cell? ⟨nd E L i, j, none⟩ = w.cell? ⟨nd E L i, j, none⟩ := fun i j hi => World.cell?_of_block (a := ⟨nd E L i, j, none⟩) (hb i hi)
  have c1 : ∀ i j, i ≤ L.length → w'.cell? ⟨nd E L (i + 1), j, none⟩ = w.cell? ⟨nd E L (i + 1), j, none⟩ := fun i j hi => by
    by_cases hl : i + 1 ≤ L.length
    · exact c _ _ hl
    · rw [nd_end (by omega)]; exact c 0 j (Nat.zero_le _)
  refine ⟨fun i hi => (c i 2 hi).trans (h.up i hi), fun i hi => (c1 i 1 hi).trans (h.dn i hi), fun i hi => ?_, h.ne, fun i j hi => (World.frozen?_of_block (a := ⟨nd E L i, j, none⟩) (hb i hi)).trans (h.fz i j hi)⟩
  have := c (i + 1) 0 (by omega)
  rw [nd_succ hi] at this
  exact this.trans (h.key i hi)
theorem Ring.below (h : Ring w E L) (hb : Below w.heap.size w w') : Ring w' E L := h.keep fun _ hi => hb.block _ (h.lt hi)
/-- Without the j-th link. -/
theorem Ring.leave (h : Ring w E L) {j : Nat} (hj : j < L.length) (hs : Set2 ⟨nd E L j, 2, none⟩ ⟨nd E L (j + 2), 1, none⟩ (.pointer (some ⟨nd E L (j + 2), 0, none⟩)) (.pointer (some ⟨nd E L j, 0, none⟩)) w w') : Ring w' E (L.eraseIdx j) := by
  have hl : (L.eraseIdx j).length = L.length - 1 := List.length_eraseIdx_of_lt hj
  refine ⟨fun i hi => ?_, fun i hi => ?_, fun i hi => ?_, fun i k hi hk e => ?_, fun i k hi => ?_⟩
  · rw [hl] at hi
    rw [nd_erase, nd_erase]
    by_cases h1 : i < j
    · rw [if_pos (by omega), if_pos (by omega), hs.ot _ (addr_ne (.inl fun e => by have := h.ne i j (by omega) (by omega) e; omega)) (addr_ne (.inr (by decide)))]
      exact h.up i (by omega)
    · by_cases h2 : i = j
      · subst h2
        rw [if_pos (Nat.le_refl _), if_neg (by omega)]
        exact hs.ca
      · rw [if_neg (by omega), if_neg (by omega), hs.ot _ (addr_ne (.inl fun e => by have := h.ne (i + 1) j (by omega) (by omega) e; omega)) (addr_ne (.inr (by decide)))]
        exact h.up (i + 1) (by omega)
  · rw [hl] at hi
    rw [nd_erase, nd_erase]
    by_cases h1 : i < j
    · rw [if_pos (by omega), if_pos (by omega), hs.ot _ (addr_ne (.inr (by decide))) (addr_ne (.inl fun e => by have := h.ne1 (i := i) (j := j + 1) (by omega) (by omega) e; omega))]
      exact h.dn i (by omega)
    · by_cases h2 : i = j
      · subst h2
        rw [if_neg (by omega), if_pos (Nat.le_refl _)]
        exact hs.cb
      · rw [if_neg (by omega), if_neg (by omega), hs.ot _ (addr_ne (.inr (by decide))) (addr_ne (.inl fun e => by have := h.ne1 (i := i + 1) (j := j + 1) (by omega) (by omega) e; omega))]
        exact h.dn (i + 1) (by omega)
  · have hi' : i < L.length - 1 := by omega
    rw [hs.ot _ (addr_ne (.inr (by decide))) (addr_ne (.inr (by decide)))]
    by_cases h1 : i < j
    · have e : (L.eraseIdx j)[i] = L[i] := by rw [List.getElem_eraseIdx, dif_pos h1]
      rw [e]; exact h.key i (by omega)
    · have e : (L.eraseIdx j)[i] = L[i + 1] := by rw [List.getElem_eraseIdx, dif_neg h1]
      rw [e]; exact h.key (i + 1) (by omega)
  · rw [hl] at hi hk
    rw [nd_erase, nd_erase] at e
    by_cases h1 : i ≤ j
    · by_cases h2 : k ≤ j
      · rw [if_pos h1, if_pos h2] at e; exact h.ne _ _ (by omega) (by omega) e
      · rw [if_pos h1, if_neg h2] at e; have := h.ne _ _ (by omega) (by omega) e; omega
    · by_cases h2 : k ≤ j
      · rw [if_neg h1, if_pos h2] at e; have := h.ne _ _ (by omega) (by omega) e; omega
      · rw [if_neg h1, if_neg h2] at e; have := h.ne _ _ (by omega) (by omega) e; omega
  · rw [hl] at hi
    rw [hs.fz, nd_erase]
    split
    · exact h.fz _ _ (by omega)
    · exact h.fz _ _ (by omega)
/-- A link that stands by itself. -/
structure Lone (w : World) (x : Nat) (k : ByteArray) : Prop where
  c0 : w.cell? ⟨x, 0, none⟩ = some (.string k)
  c1 : ∃ v, w.cell? ⟨x, 1, none⟩ = some v
  c2 : ∃ v, w.cell? ⟨x, 2, none⟩ = some v
  fz : ∀ j, w.frozen? ⟨x, j, none⟩ = false
/-- With one link more, the last one. -/
theorem Ring.enter (h : Ring w E L) {x : Nat} {k : ByteArray} (hx : Lone w x k) (hne : ∀ i, i ≤ L.length → nd E L i ≠ x) {W : World} (hW : Set2 ⟨x, 1, none⟩ ⟨x, 2, none⟩ (.pointer (some ⟨nd E L L.length, 0, none⟩)) (.pointer (some ⟨E, 0, none⟩)) w W)
    (hs : Set2 ⟨nd E L L.length, 2, none⟩ ⟨E, 1, none⟩ (.pointer (some ⟨x, 0, none⟩)) (.pointer (some ⟨x, 0, none⟩)) W w') : Ring w' E (L ++ [(x, k)]) := by
  have hl : (L ++ [(x, k)]).length = L.length + 1 := by simp
  have hE : E ≠ x := hne 0 (Nat.zero_le _)
  have hn : nd E L L.length ≠ x := hne _ (Nat.le_refl _)
  have n0 : ∀ i, i ≤ L.length → nd E (L ++ [(x, k)]) i = nd E L i := fun i hi => nd_append hi
  have n1 : nd E (L ++ [(x, k)]) (L.length + 1) = x := nd_append_last
  have n2 : nd E (L ++ [(x, k)]) (L.length + 2) = E := nd_end (by rw [hl]; omega)
  have lo : ∀ j, j ≠ 1 → j ≠ 2 → ∀ b, w'.cell? ⟨b, j, none⟩ = w.cell? ⟨b, j, none⟩ := fun j h1 h2 b => by
    rw [hs.ot _ (addr_ne (.inr h2)) (addr_ne (.inr h1)), hW.ot _ (addr_ne (.inr h1)) (addr_ne (.inr h2))]
  refine ⟨fun i hi => ?_, fun i hi => ?_, fun i hi => ?_, fun i j hi hj e => ?_, fun i j hi => ?_⟩
  · rw [hl] at hi
    by_cases h1 : i < L.length
    · rw [n0 i (by omega), n0 (i + 1) (by omega), hs.ot _ (addr_ne (.inl fun e => by have := h.ne i L.length (by omega) (by omega) e; omega)) (addr_ne (.inr (by decide))), hW.ot _ (addr_ne (.inr (by decide))) (addr_ne (.inl (hne i (by omega))))]
      exact h.up i (by omega)
    · by_cases h2 : i = L.length
      · rw [h2, n0 _ (Nat.le_refl _), n1]; exact hs.ca
      · have h3 : i = L.length + 1 := by omega
        rw [h3, n1, n2, hs.ot _ (addr_ne (.inl (Ne.symm hn))) (addr_ne (.inr (by decide)))]
        exact hW.cb
  · rw [hl] at hi
    by_cases h1 : i < L.length
    · rw [n0 i (by omega), n0 (i + 1) (by omega), hs.ot _ (addr_ne (.inr (by decide))) (addr_ne (.inl fun e => by have := h.ne (i + 1) 0 (by omega) (by omega) e; omega)), hW.ot _ (addr_ne (.inl (hne (i + 1) (by omega)))) (addr_ne (.inr (by decide)))]
      exact h.dn i (by omega)
    · by_cases h2 : i = L.length
      · rw [h2, n0 _ (Nat.le_refl _), n1, hs.ot _ (addr_ne (.inr (by decide))) (addr_ne (.inl (Ne.symm hE)))]; exact hW.ca
      · have h3 : i = L.length + 1 := by omega
        rw [h3, n1, n2]
        exact hs.cb
  · rw [lo 0 (by decide) (by decide)]
    rw [hl] at hi
    by_cases h1 : i < L.length
    · have e : (L ++ [(x, k)])[i] = L[i] := List.getElem_append_left h1
      rw [e]; exact h.key i h1
    · have h3 : i = L.length := by omega
      subst h3
      have e : (L ++ [(x, k)])[L.length] = (x, k) := by simp
      rw [e]; exact hx.c0
  · rw [hl] at hi hj
    by_cases h1 : i ≤ L.length
    · by_cases h2 : j ≤ L.length
      · rw [n0 i h1, n0 j h2] at e; exact h.ne i j h1 h2 e
      · have h3 : j = L.length + 1 := by omega
        rw [n0 i h1, h3, n1] at e; exact absurd e (hne i h1)
    · have h3 : i = L.length + 1 := by omega
      by_cases h2 : j ≤ L.length
      · rw [n0 j h2, h3, n1] at e; exact absurd e.symm (hne j h2)
      · omega
  · rw [hl] at hi
    rw [hs.fz, hW.fz]
    by_cases h1 : i ≤ L.length
    · rw [n0 i h1]; exact h.fz i j h1
    · have h3 : i = L.length + 1 := by omega
      rw [h3, n1]; exact hx.fz j
end
end Go.Proofs.Ytkpcobaklbfpcaa.Ca
