/- Package reader's objects: a row that waits; Feed at any object (as package lines' in stage 6). Conditions: bounds. -/
import Derived.Test.YtimgkbpiengnjaaGreatDoorLy5
import Derived.Test.YtimgkbpiengnjaaGreatDoorParse
import Derived.ArgAppend
import Derived.Laws.OwnMore
import Derived.Deep.MidRow
import Derived.Deep.Upon
namespace Go.Proofs.YtimgkbpiengnjaaGreatDoor.Ln
open Go.ChangeShapes Go.WideShapes Go.ChangeAt Go.RowKit
open Go.Proofs.YtimgkbpiengnjaaGreatDoor.Lw

theorem PCtx.ctx {w : World} (h : PCtx w) : Ctx w := ⟨h.tab, h.syn, h.rng⟩
/-- Of whatever a names, the block lies below B. -/
def AddrB (B : Nat) (a : Option Addr) : Prop := ∀ ad, a = some ad → ad.block < B
theorem AddrB.add {B : Nat} {a : Option Addr} (h : AddrB B a) (p : Prop) [Decidable p] (k : Nat) : AddrB B (if p then a else a.map (·.add k)) := by
  intro ad e
  split at e
  · exact h ad e
  · cases a with
    | none => cases e
    | some a0 =>
      have := h a0 rfl
      simp only [Option.map_some, Option.some.injEq] at e
      subst e
      unfold Addr.add
      split <;> exact this
theorem InB.addr {w : World} {a : Option Addr} {c : Nat} {l : List UInt8} (h : InB w a c l) (hl : 0 < l.length) : AddrB w.heap.size a := by
  obtain ⟨g, o, rfl, hc⟩ := h.cell hl
  intro ad e
  injection e with e
  subst e
  exact World.block_lt_of_cell? w _ (hc 0 hl)
theorem InB.keep {w w' : World} {a : Option Addr} {c B : Nat} {l : List UInt8} (h : InB w a c l) (hA : AddrB B a) (hb : ∀ i, i < B → w'.heap[i]? = w.heap[i]?) : InB w' a c l := by
  refine ⟨h.cap, h.max, fun hl => ?_⟩
  obtain ⟨g, o, rfl, hc⟩ := h.cell hl
  exact ⟨g, o, rfl, fun i hi => (World.cell?_of_block (a := ⟨g, o + i, none⟩) (hb g (hA _ rfl))).trans (hc i hi)⟩
theorem InB.dropA {w : World} {a : Option Addr} {c : Nat} {l : List UInt8} (h : InB w a c l) (k : Nat) (hk : k ≤ l.length) :
    ∃ a2, (∀ B, AddrB B a → AddrB B a2) ∧ InB w a2 (c - k) (l.drop k) ∧ ∀ wx, (Instr.slice 30 (.slice a l.length c) (some (.int .i64 k)) none none).run Tryz.prog wx = .ok (.slice a2 (l.length - k) (c - k)) wx := by
  have hcap := h.cap
  have hmax := h.max
  have hel : Tryz.prog.underlying 30 = some (.slice (Tryz.prog.elem 30)) := by kernel_rfl
  have hsz : ∀ wx, (sizeOf (Tryz.prog.elem 30)).run Tryz.prog wx = .ok 1 wx := fun wx => by kernel_rfl
  have hrun : ∀ wx, (Instr.slice 30 (.slice a l.length c) (some (.int .i64 k)) none none).run Tryz.prog wx = .ok (sliced a k l.length c 1) wx := fun wx => by
    rw [run_slice_l wx _ a l.length c hel .i64 k (by omega) (by omega), hsz]
    rfl
  refine ⟨if c = k then a else a.map (·.add (k * 1)), fun B hA => hA.add _ _, ⟨by rw [List.length_drop]; omega, by omega, fun hl => ?_⟩, fun wx => by rw [hrun]; rfl⟩
  rw [List.length_drop] at hl
  obtain ⟨g, o, rfl, hc⟩ := h.cell (by omega)
  rw [if_neg (by omega)]
  refine ⟨g, o + k, by simp [Addr.add], fun i hi => ?_⟩
  rw [List.length_drop] at hi
  rw [Nat.add_assoc, hc (k + i) (by omega), List.getElem_drop]
theorem addr_ne {b c i j : Nat} (h : b ≠ c ∨ i ≠ j) : (⟨b, i, none⟩ : Addr) ≠ ⟨c, j, none⟩ := by
  intro e
  injection e with e1 e2
  rcases h with h | h
  · exact h e1
  · exact h e2
theorem InB.news {w : World} {a : Option Addr} {c : Nat} {l : List UInt8} (h : InB w a c l) (hl : 0 < l.length) : ∃ ad, a = some ad ∧ ∀ j u, (cellsB l)[j]? = some u → w.cell? (ad.add j) = some u := by
  obtain ⟨g, o, e, hc⟩ := h.cell hl
  refine ⟨_, e, fun j u hj => ?_⟩
  have hjl : j < l.length := by
    have := (List.getElem?_eq_some_iff.1 hj).1
    rwa [cellsB_len] at this
  rw [Addr.add_lit, hc j hjl, ← hj]
  simp [cellsB, Lib.byteCells, hjl]
theorem inb_of_own {B : Nat} {w : World} {v : Value} {l : List UInt8} (h : w.ownsRow B 5 1 v l.length (cellsB l)) : ∃ a c, v = .slice a l.length c ∧ InB w a c l ∧ (a = none → c = 0) := by
  rcases h.2 with ⟨rfl, hn⟩ | ⟨g, cap, cur, rfl, hg, hh, h1, h2, h3, h4⟩
  · exact ⟨none, 0, by rw [hn], ⟨by omega, by omega, fun hl => absurd hl (by omega)⟩, fun _ => rfl⟩
  · refine ⟨some ⟨g, 0, none⟩, cap, rfl, ⟨h1, by unfold maxLen at h2; omega, fun _ => ⟨g, 0, rfl, fun i hi => ?_⟩⟩, fun e => by cases e⟩
    have e1 : (cur.toList.take (l.length * 1))[i]? = cur.toList[i]? := List.getElem?_take_of_lt (by omega)
    rw [h4] at e1
    rw [Nat.zero_add]
    simp only [World.cell?, hh]
    have e2 : (cellsB l)[i]? = some (.int .u8 (l[i].toNat : Int)) := by simp [cellsB, Lib.byteCells, hi]
    rw [e2] at e1
    simpa using e1.symm
/-- The bytes l in a new block, marked as those of a text. -/
theorem inb_new (w : World) (C : Array Value) (l : List UInt8) (hC : C = (cellsB l).toArray) (fr : Nat × Nat) (hl : l.length ≤ 1000000) : InB (w.alloc (.cells C 5 fr)) (some ⟨w.heap.size, 0, none⟩) l.length l := by
  subst hC
  refine ⟨Nat.le_refl _, by omega, fun _ => ⟨w.heap.size, 0, rfl, fun i hi => ?_⟩⟩
  rw [Nat.zero_add, World.cell?_alloc_mark]
  simp [cellsB, Lib.byteCells, hi]
theorem InB.setCell {w : World} {a : Option Addr} {c L : Nat} {l : List UInt8} (h : InB w a c l) (hne : ∀ ad, a = some ad → ad.block ≠ L) (i : Nat) (x : Value) : InB (w.setCell ⟨L, i, none⟩ x) a c l :=
  ⟨h.cap, h.max, fun hl => by
    obtain ⟨g, o, e, hc⟩ := h.cell hl
    refine ⟨g, o, e, fun j hj => ?_⟩
    rw [World.cell?_setCell_other _ _ _ _ (addr_ne (.inl (fun e2 => hne _ e e2.symm)))]
    exact hc j hj⟩
/-- An object in block L, not failed, of which the bytes l wait, in block G behind B, which is its own. -/
structure Wt (L B G : Nat) (w : World) (l : List UInt8) : Prop where
  lt : L < B
  le : B ≤ w.heap.size
  row : ∃ a c, w.cell? ⟨L, 0, none⟩ = some (.slice a l.length c) ∧ InB w a c l ∧ (a = none → c = 0) ∧
    ∀ ad, a = some ad → ad.block = G ∧ B ≤ G ∧ G < w.heap.size ∧ ad.spot = none ∧ ∀ j, j < c → (w.cell? ⟨G, ad.off + j, none⟩).isSome = true ∧ w.frozen? ⟨G, ad.off + j, none⟩ = false
  c1 : w.cell? ⟨L, 1, none⟩ = some (.bool false)
  f0 : w.frozen? ⟨L, 0, none⟩ = false
  f1 : w.frozen? ⟨L, 1, none⟩ = false
/-- Of w all blocks stand in w' but those that S names. -/
structure Fr (S : Nat → Prop) (w w' : World) : Prop where
  os : w'.os = w.os
  tape : w'.tape = w.tape
  output : w'.output = w.output
  size : w.heap.size ≤ w'.heap.size
  block : ∀ i, i < w.heap.size → ¬ S i → w'.heap[i]? = w.heap[i]?
theorem Fr.below {S : Nat → Prop} {B : Nat} {w w' : World} (h : Fr S w w') (hB : B ≤ w.heap.size) (hS : ∀ i, i < B → ¬ S i) : Below B w w' := ⟨h.os, h.tape, h.output, h.size, fun i hi => h.block i (Nat.lt_of_lt_of_le hi hB) (hS i hi)⟩
theorem Fr.of_below {S : Nat → Prop} {w w' : World} (h : Below w.heap.size w w') : Fr S w w' := ⟨h.os, h.tape, h.output, h.size, fun i hi _ => h.block i hi⟩
theorem Fr.trans {S : Nat → Prop} {a b c : World} (h : Fr S a b) (k : Fr S b c) : Fr S a c :=
  ⟨k.os.trans h.os, k.tape.trans h.tape, k.output.trans h.output, Nat.le_trans h.size k.size, fun i hi hs => (k.block i (Nat.lt_of_lt_of_le hi h.size) hs).trans (h.block i hi hs)⟩
theorem Fr.mono {S T : Nat → Prop} {a b : World} (h : Fr S a b) (hST : ∀ i, S i → T i) : Fr T a b := ⟨h.os, h.tape, h.output, h.size, fun i hi hs => h.block i hi fun hx => hs (hST i hx)⟩
theorem Fr.setCell {S : Nat → Prop} (w : World) (p : Addr) (hp : S p.block) (v : Value) : Fr S w (w.setCell p v) := by
  have h := Below.setCell (p := p) (Below.refl p.block w) (Nat.le_refl _) v
  refine ⟨h.os, h.tape, h.output, h.size, fun i hi hs => ?_⟩
  have hne : i ≠ p.block := fun e => hs (e ▸ hp)
  exact Below.heap_setCell w p v i hne
theorem Wt.lo {L B G : Nat} {w : World} {l : List UInt8} (h : Wt L B G w l) : L < w.heap.size := Nat.lt_of_lt_of_le h.lt h.le
theorem Wt.fr {L B G : Nat} {w w' : World} {l : List UInt8} {S : Nat → Prop} (h : Wt L B G w l) (hf : Fr S w w') (hL : ¬ S L) (hG : ¬ S G) : Wt L B G w' l := by
  obtain ⟨a, c, h0, hB, hn, ha⟩ := h.row
  have hLb := hf.block L h.lo hL
  have cl : ∀ i, w'.cell? ⟨L, i, none⟩ = w.cell? ⟨L, i, none⟩ := fun i => by simp only [World.cell?, hLb]
  have fl : ∀ i, w'.frozen? ⟨L, i, none⟩ = w.frozen? ⟨L, i, none⟩ := fun i => by simp only [World.frozen?, hLb]
  refine ⟨h.lt, Nat.le_trans h.le hf.size, ⟨a, c, (cl 0).trans h0, ⟨hB.cap, hB.max, fun hl => ?_⟩, hn, fun ad e => ?_⟩, (cl 1).trans h.c1, (fl 0).trans h.f0, (fl 1).trans h.f1⟩
  · obtain ⟨g, o, e, hc⟩ := hB.cell hl
    obtain ⟨hg, -, hlt, -, -⟩ := ha _ e
    have hg : g = G := hg
    subst hg
    have hGb := hf.block g hlt hG
    exact ⟨g, o, e, fun i hi => by simp only [World.cell?, hGb]; exact hc i hi⟩
  · obtain ⟨hg, h1, hlt, h2, h3⟩ := ha _ e
    have hGb := hf.block G hlt hG
    refine ⟨hg, h1, Nat.lt_of_lt_of_le hlt hf.size, h2, fun j hj => ?_⟩
    have := h3 j hj
    simp only [World.cell?, World.frozen?, hGb] at this ⊢
    exact this
theorem Wt.below {L B G : Nat} {w w' : World} {l : List UInt8} (h : Wt L B G w l) (hb : Below w.heap.size w w') : Wt L B G w' l := h.fr (S := fun _ => False) (Fr.of_below hb) id id
/-- An object in block L, not failed, whatever waits. -/
structure Ob (L B : Nat) (w : World) : Prop where
  lt : L < B
  le : B ≤ w.heap.size
  c0 : ∃ v, w.cell? ⟨L, 0, none⟩ = some v
  c1 : w.cell? ⟨L, 1, none⟩ = some (.bool false)
  f0 : w.frozen? ⟨L, 0, none⟩ = false
  f1 : w.frozen? ⟨L, 1, none⟩ = false
theorem Wt.ob {L B G : Nat} {w : World} {l : List UInt8} (h : Wt L B G w l) : Ob L B w := ⟨h.lt, h.le, (let ⟨_, _, h0, _⟩ := h.row; ⟨_, h0⟩), h.c1, h.f0, h.f1⟩
theorem Ob.fr {L B : Nat} {w w' : World} {S : Nat → Prop} (h : Ob L B w) (hf : Fr S w w') (hL : ¬ S L) : Ob L B w' := by
  have hLb := hf.block L (Nat.lt_of_lt_of_le h.lt h.le) hL
  have cl : ∀ i, w'.cell? ⟨L, i, none⟩ = w.cell? ⟨L, i, none⟩ := fun i => by simp only [World.cell?, hLb]
  have fl : ∀ i, w'.frozen? ⟨L, i, none⟩ = w.frozen? ⟨L, i, none⟩ := fun i => by simp only [World.frozen?, hLb]
  obtain ⟨v, h0⟩ := h.c0
  exact ⟨h.lt, Nat.le_trans h.le hf.size, ⟨v, (cl 0).trans h0⟩, (cl 1).trans h.c1, (fl 0).trans h.f0, (fl 1).trans h.f1⟩
/-- What a store into the object leaves. -/
theorem Ob.set {L B : Nat} {w : World} (h : Ob L B w) {r : List UInt8} {a : Option Addr} {c G' : Nat} (hB : InB w a c r) (hn : a = none → c = 0)
    (ha : ∀ ad, a = some ad → ad.block = G' ∧ B ≤ G' ∧ G' < w.heap.size ∧ ad.spot = none ∧ ∀ j, j < c → (w.cell? ⟨G', ad.off + j, none⟩).isSome = true ∧ w.frozen? ⟨G', ad.off + j, none⟩ = false) :
    Wt L B G' (w.setCell ⟨L, 0, none⟩ (.slice a r.length c)) r := by
  obtain ⟨v0, h0⟩ := h.c0
  have hne : ∀ ad, a = some ad → ad.block ≠ L := fun ad e => by
    obtain ⟨h1, h2, -⟩ := ha ad e
    have := h.lt
    omega
  refine ⟨h.lt, by rw [World.size_setCell]; exact h.le, ⟨a, c, World.cell?_setCell_same w _ _ h0, hB.setCell hne 0 _, hn, fun ad e => ?_⟩, (World.cell?_setCell_other _ _ _ _ (addr_ne (.inr (by show (0 : Nat) ≠ 1; decide)))).trans h.c1, by rw [World.frozen?_setCell]; exact h.f0, by rw [World.frozen?_setCell]; exact h.f1⟩
  obtain ⟨h1, h2, h3, h4, h5⟩ := ha ad e
  refine ⟨h1, h2, by rw [World.size_setCell]; exact h3, h4, fun j hj => ?_⟩
  have hGL : G' ≠ L := by have := h.lt; omega
  rw [World.cell?_setCell_other _ _ _ _ (addr_ne (.inl (fun e => hGL e.symm))), World.frozen?_setCell]
  exact h5 j hj
theorem below_setCells (g : Nat) : ∀ (vs : List Value) (o : Nat) (w : World), Below g w (w.setCells g o vs)
  | [], _, w => Below.refl _ _
  | v :: r, o, w => by
    rw [World.setCells]
    exact (Below.setCell (p := ⟨g, o, none⟩) (Below.refl g w) (Nat.le_refl _) v).trans (below_setCells g r (o + 1) _)
theorem fr_setCells (w : World) (g o : Nat) (vs : List Value) : Fr (fun i => i = g) w (w.setCells g o vs) :=
  have h := below_setCells g vs o w
  ⟨h.os, h.tape, h.output, h.size, fun _ hi hne => World.heap_setCells_other w g o vs hi hne⟩
theorem Fr.of_grown {w w' : World} {row : Option Nat} {S : Nat → Prop} (h : w.grownBy w' row) (hS : ∀ k, row = some k → S k) : Fr S w w' := ⟨h.os, h.tape, h.output, h.size, fun i hi hs => h.block i hi (fun e => hs (hS i e.symm))⟩
/-- More bytes behind those that lie there, in the same block. -/
theorem InB.more {w : World} {g o c : Nat} {l q : List UInt8} (h : InB w (some ⟨g, o, none⟩) c l) (hroom : l.length + q.length ≤ c) (hs : ∀ j, j < c → (w.cell? ⟨g, o + j, none⟩).isSome = true) :
    InB (w.setCells g (o + l.length) (cellsB q)) (some ⟨g, o, none⟩) c (l ++ q) := by
  have hql := cellsB_len q
  refine ⟨by rw [List.length_append]; exact hroom, h.max, fun _ => ⟨g, o, rfl, fun i hi => ?_⟩⟩
  rw [List.length_append] at hi
  by_cases hil : i < l.length
  · rw [World.cell?_setCells_out g (cellsB q) (o + l.length) w ⟨g, o + i, none⟩ (fun _ _ => .inl (by show o + i < o + l.length; omega)), List.getElem_append_left hil]
    obtain ⟨g2, o2, e, hc⟩ := h.cell (by omega)
    injection e with e
    injection e with e1 e2
    subst e1 e2
    exact hc i hil
  · have hin := World.cell?_setCells_in g (cellsB q) (o + l.length) w (fun j hj => by
      rw [Nat.add_assoc]
      exact hs (l.length + j) (by omega)) (i - l.length) (by omega)
    rw [Nat.add_assoc, show l.length + (i - l.length) = i by omega] at hin
    rw [hin, List.getElem_append_right (by omega)]
    simp [cellsB, Lib.byteCells]
/-- append of nothing. -/
theorem wpList_append_nothing {w : World} {ops : Array Oper} {rest : List Oper} {o : Oper} {a : Act} {Q : Exit → Act → World → Prop} (hgd : o.guard = none) (s x : Operand)
    (ho : o.op = .call { callee := .builtin .append, args := #[s, x], argTypes := #[30, 30] }) (sa : Option Addr) (n cp : Nat) (hs : a.eval s = .slice sa n cp) (hnc : n ≤ cp) (hsn : sa = none → cp = 0) (xa : Option Addr) (c : Nat) (hx : a.eval x = .slice xa 0 c)
    (h : wpList Tryz.prog ops Q rest (a.put o.dst (.slice sa n cp)) w) : wpList Tryz.prog ops Q (o :: rest) a w := by
  obtain ⟨i0, hi, hz0, hz1, hz2⟩ := info_parts i5
  have ht : Tryz.prog.underlying 30 = some (.slice 5) := Tryz.underlying30
  refine wpList_plain hgd fun K hK => ?_
  have hrun : (Builtin.append_ #[30, 30] o.type #[.slice sa n cp, .slice xa 0 c]).run Tryz.prog w = .ok (.slice sa n cp) w := by
    cases sa with
    | none =>
      obtain rfl : cp = 0 := hsn rfl
      obtain rfl : n = 0 := by omega
      cases xa <;> simp [Builtin.append_, run_underlying ht, sizeOf, typeInfo, hi, Builtin.lenOf, Builtin.firstCells, loadCells, loadCellsFrom]
    | some sa =>
      cases xa <;> simp [Builtin.append_, run_underlying ht, sizeOf, typeInfo, hi, Builtin.lenOf, Builtin.firstCells, loadCells, loadCellsFrom, hnc, storeCells]
  unfold Oper.wp
  simp [execOp, ho, resolve, invoke, builtin, hs, hx, hrun, Result.andThen]
  exact hK _ _ h
theorem own_spare {B : Nat} {w : World} {v : Value} {l : List UInt8} (h : w.ownsRow B 5 1 v l.length (cellsB l)) :
    ∃ a c, v = .slice a l.length c ∧ InB w a c l ∧ (a = none → c = 0) ∧ ∀ ad, a = some ad → v.ownBlock = some ad.block ∧ B ≤ ad.block ∧ ad.block < w.heap.size ∧ ad.spot = none ∧ ∀ j, j < c → (w.cell? ⟨ad.block, ad.off + j, none⟩).isSome = true ∧ w.frozen? ⟨ad.block, ad.off + j, none⟩ = false := by
  obtain ⟨a, c, e, hB, hn⟩ := inb_of_own h
  refine ⟨a, c, e, hB, hn, fun ad ea => ?_⟩
  rcases h.2 with ⟨hv, -⟩ | ⟨g, cap, cur, hv, hg, hh, h1, h2, h3, h4⟩
  · rw [hv, ea] at e; cases e
  · rw [hv, ea] at e
    injection e with e _ e3
    injection e with e
    subst e e3
    refine ⟨by rw [hv]; rfl, hg, (Array.getElem?_eq_some_iff.1 hh).1, rfl, fun j hj => ⟨?_, ?_⟩⟩
    · simp only [World.cell?, hh]
      have : 0 + j < cur.size := by omega
      simp
      omega
    · simp [World.frozen?, hh]
set_option maxHeartbeats 4000000 in
set_option maxRecDepth 100000 in
theorem feed_wt (L B G : Nat) (w : World) (l : List UInt8) (hW : Wt L B G w l) (a : Option Addr) (c : Nat) (q : List UInt8) (hB : InB w a c q) (hm : l.length + q.length ≤ 1000000) :
    Calls Tryz.prog 7 #[.pointer (some ⟨L, 0, none⟩), .slice a q.length c] w fun e w' => e = .returned (.tuple #[]) ∧ ∃ G', Wt L B G' w' (l ++ q) ∧ Fr (fun i => i = L ∨ i = G) w w' ∧ (G' = G ∨ (w.heap.size ≤ G' ∧ G' < w'.heap.size)) := by
  obtain ⟨sa, sc, h0, hIn, hn, ha⟩ := hW.row
  have h1 := hW.c1
  have f0 := hW.f0
  have HW := Lib.hid hW
  have hLs := hW.lo
  by_cases hq0 : q = []
  · subst hq0
    have HZ : Hid (Wt L B G (w.setCell ⟨L, 0, none⟩ (.slice sa l.length sc)) (l ++ []) ∧ Fr (fun i => i = L ∨ i = G) w (w.setCell ⟨L, 0, none⟩ (.slice sa l.length sc))) := Lib.hid (by
      rw [List.append_nil]
      exact ⟨hW.ob.set hIn hn ha, Fr.setCell w _ (.inl rfl) _⟩)
    have hcap := hIn.cap
    clear hW hIn ha hB
    go_enter Tryz.func7, Tryz.ntmps7
    go_wp2_with (at_builtin; refine wpList_append_nothing rfl _ _ rfl sa l.length sc rfl hcap hn a c rfl ?_)
    go_wp2_with fail
    go_end0
    exact ⟨rfl, G, HZ.out.1, HZ.out.2, .inl rfl⟩
  have hq1 : 0 < q.length := by cases q with | nil => exact absurd rfl hq0 | cons x y => simp
  obtain ⟨ad, rfl, hnews⟩ := hB.news hq1
  have HN := Lib.hid hnews
  have hql := cellsB_len q
  obtain ⟨i0, hi, hz0, hz1, hz2⟩ := info_parts i5
  cases sa with
  | none =>
    have hsc := hn rfl
    have hl0 : l = [] := List.eq_nil_of_length_eq_zero (by have := hIn.cap; omega)
    subst hl0 hsc
    clear hIn ha hB hnews hn hW
    go_enter Tryz.func7, Tryz.ntmps7
    go_wp2_with (at_builtin; refine wpList_append_own_at _ rfl _ _ 30 rfl B 5 i0 (.int .u8 0) 1 1 Tryz.underlying30 hi hz0 hz1 hz2 rfl (by decide) (.slice none 0 0) 0 [] rfl (World.ownsRow_nil _ _ _ _) ad q.length c (cellsB q) rfl (by omega) HN.out (cellsB_one q) (by unfold maxLen; omega) (by omega) HW.out.le ?_)
    intro v2 w2 hr2 hg2 hnil2 hat2
    have hr3 : w2.ownsRow B 5 1 v2 q.length (cellsB q) := by first | exact hr2 | (rw [Nat.zero_add, List.nil_append] at hr2; exact hr2)
    obtain ⟨a2, c2, rfl, hB2, hn2, ha2⟩ := own_spare hr3
    have hfr : Fr (fun i => i = L ∨ i = G) w w2 := Fr.of_grown hg2 (fun k hk => by cases hk)
    have hob : Ob L B w2 := HW.out.ob.fr (S := fun _ => False) (Fr.of_grown hg2 (fun k hk => by cases hk)) id
    have hblk : ∃ G', (∀ ad, a2 = some ad → ad.block = G') ∧ w.heap.size ≤ G' ∧ G' < w2.heap.size := by
      cases a2 with
      | none => obtain ⟨g, o, e, -⟩ := hB2.cell hq1; cases e
      | some ad2 =>
        refine ⟨ad2.block, fun ad e => congrArg Addr.block (Option.some.inj e).symm, ?_, (ha2 ad2 rfl).2.2.1⟩
        rcases hat2 with h | h
        · cases h
        · have h : some ad2.block = some w.heap.size := h
          injection h with h
          omega
    obtain ⟨G', hG', hGs, hGt⟩ := hblk
    have HZ : Hid (Wt L B G' (w2.setCell ⟨L, 0, none⟩ (.slice a2 q.length c2)) ([] ++ q) ∧ Fr (fun i => i = L ∨ i = G) w (w2.setCell ⟨L, 0, none⟩ (.slice a2 q.length c2))) := Lib.hid (by
      refine ⟨hob.set hB2 hn2 fun ad e => ?_, hfr.trans (Fr.setCell w2 _ (.inl rfl) _)⟩
      obtain ⟨-, h2, h3, h4, h5⟩ := ha2 ad e
      have := hG' ad e
      subst this
      exact ⟨rfl, h2, h3, h4, h5⟩)
    obtain ⟨vv, g0⟩ := hob.c0
    have gf := hob.f0
    clear hr2 hg2 hnil2 hat2 hr3 hB2 hn2 ha2 hfr hob hG'
    go_wp2_with fail
    go_end0
    exact ⟨rfl, G', HZ.out.1, HZ.out.2, .inr ⟨hGs, by rw [World.size_setCell]; exact hGt⟩⟩
  | some sad =>
    obtain ⟨hG, hBG, hGlt, hspot, hsp⟩ := ha _ rfl
    obtain ⟨g, o, spot⟩ := sad
    have hG : g = G := hG
    have hspot : spot = none := hspot
    subst hG hspot
    have holds : ∀ j u, (cellsB l)[j]? = some u → w.cell? ⟨g, o + j, none⟩ = some u := fun j u hj => by
      have hjl : j < l.length := by
        have := (List.getElem?_eq_some_iff.1 hj).1
        rwa [cellsB_len] at this
      obtain ⟨g2, o2, e, hc⟩ := hIn.cell (by omega)
      injection e with e
      injection e with e1 e2
      subst e1 e2
      rw [hc j hjl, ← hj]
      simp [cellsB, Lib.byteCells, hjl]
    have hll := cellsB_len l
    have hcap := hIn.cap
    have hmax := hIn.max
    have HIn := Lib.hid hIn
    have Hsp := Lib.hid hsp
    have Hold := Lib.hid holds
    clear hIn ha hB hnews hn hW hsp holds
    go_enter Tryz.func7, Tryz.ntmps7
    go_wp2_with (at_builtin; refine wpList_append_arg _ rfl _ _ 30 rfl 5 i0 (.int .u8 0) 1 1 Tryz.underlying30 hi hz0 hz1 hz2 rfl (by decide) g o l.length sc (cellsB l) rfl (by omega) Hold.out ad q.length c (cellsB q) rfl (by omega) HN.out (cellsB_one q) ?hspare (by unfold maxLen; omega) (by omega) ?hroom ?hgrow)
    case hspare =>
      intro hr j hj
      have h := Hsp.out (l.length + j) (by omega)
      rw [← Nat.add_assoc] at h
      first | exact h | (rw [Nat.mul_one]; exact h)
    case hroom =>
      intro hr
      try rw [Nat.mul_one]
      have hB2 := HIn.out.more (q := q) hr (fun j hj => (Hsp.out j hj).1)
      have hf2 := fr_setCells w g (o + l.length) (cellsB q)
      have hLg : ¬ L = g := by have := HW.out.lt; omega
      have hob : Ob L B (w.setCells g (o + l.length) (cellsB q)) := HW.out.ob.fr hf2 hLg
      have HZ : Hid (Wt L B g ((w.setCells g (o + l.length) (cellsB q)).setCell ⟨L, 0, none⟩ (.slice (some ⟨g, o, none⟩) (l ++ q).length sc)) (l ++ q) ∧ Fr (fun i => i = L ∨ i = g) w ((w.setCells g (o + l.length) (cellsB q)).setCell ⟨L, 0, none⟩ (.slice (some ⟨g, o, none⟩) (l ++ q).length sc))) := Lib.hid (by
        refine ⟨hob.set hB2 (fun e => by cases e) fun ad e => ?_, (hf2.mono fun i h => .inr h).trans (Fr.setCell _ _ (.inl rfl) _)⟩
        injection e with e
        subst e
        refine ⟨rfl, hBG, Nat.lt_of_lt_of_le hGlt hf2.size, rfl, fun j hj => ?_⟩
        have h := Hsp.out j hj
        exact ⟨World.isSome_setCells g _ _ _ _ h.1, by rw [World.frozen?_setCells]; exact h.2⟩)
      rw [List.length_append] at HZ
      obtain ⟨vv, g0⟩ := hob.c0
      have gf := hob.f0
      clear hB2 hf2 hob
      generalize w.setCells g (o + l.length) (cellsB q) = W2 at *
      go_wp2_with fail
      go_end0
      exact ⟨rfl, g, HZ.out.1, HZ.out.2, .inl rfl⟩
    case hgrow =>
      intro hr v2 w2 hr2 hg2
      have hr3 : w2.ownsRow w.heap.size 5 1 v2 (l ++ q).length (cellsB (l ++ q)) := by rw [List.length_append, cellsB_app]; exact hr2
      obtain ⟨a2, c2, rfl, hB2, hn2, ha2⟩ := own_spare hr3
      have hfr : Fr (fun i => i = L ∨ i = g) w w2 := Fr.of_grown hg2 (fun k hk => by cases hk)
      have hob : Ob L B w2 := HW.out.ob.fr (S := fun _ => False) (Fr.of_grown hg2 (fun k hk => by cases hk)) id
      have hblk : ∃ G', (∀ ad, a2 = some ad → ad.block = G') ∧ w.heap.size ≤ G' ∧ G' < w2.heap.size := by
        cases a2 with
        | none => obtain ⟨g, o, e, -⟩ := hB2.cell (by rw [List.length_append]; omega); cases e
        | some ad2 => exact ⟨ad2.block, fun ad e => congrArg Addr.block (Option.some.inj e).symm, (ha2 ad2 rfl).2.1, (ha2 ad2 rfl).2.2.1⟩
      obtain ⟨G', hG', hGs, hGt⟩ := hblk
      have HZ : Hid (Wt L B G' (w2.setCell ⟨L, 0, none⟩ (.slice a2 (l ++ q).length c2)) (l ++ q) ∧ Fr (fun i => i = L ∨ i = g) w (w2.setCell ⟨L, 0, none⟩ (.slice a2 (l ++ q).length c2))) := Lib.hid (by
        refine ⟨hob.set hB2 hn2 fun ad e => ?_, hfr.trans (Fr.setCell w2 _ (.inl rfl) _)⟩
        obtain ⟨-, h2, h3, h4, h5⟩ := ha2 ad e
        have := hG' ad e
        subst this
        exact ⟨rfl, Nat.le_trans HW.out.le h2, h3, h4, h5⟩)
      rw [List.length_append] at HZ ⊢
      obtain ⟨vv, g0⟩ := hob.c0
      have gf := hob.f0
      clear hr2 hg2 hr3 hB2 hn2 ha2 hfr hob hG'
      go_wp2_with fail
      go_end0
      exact ⟨rfl, G', HZ.out.1, HZ.out.2, .inr ⟨hGs, by rw [World.size_setCell]; exact hGt⟩⟩
set_option maxRecDepth 100000 in
theorem InB.dropG {w : World} {g o c : Nat} {l : List UInt8} (h : InB w (some ⟨g, o, none⟩) c l) (u : Nat) (hu : u < l.length) :
    InB w (some ⟨g, o + u, none⟩) (c - u) (l.drop u) ∧ ∀ wx, (Instr.slice 30 (.slice (some ⟨g, o, none⟩) l.length c) (some (.int .i64 u)) none none).run Tryz.prog wx = .ok (.slice (some ⟨g, o + u, none⟩) (l.length - u) (c - u)) wx := by
  have hcap := h.cap
  have hmax := h.max
  have hel : Tryz.prog.underlying 30 = some (.slice (Tryz.prog.elem 30)) := by kernel_rfl
  have hsz : ∀ wx, (sizeOf (Tryz.prog.elem 30)).run Tryz.prog wx = .ok 1 wx := fun wx => by kernel_rfl
  refine ⟨⟨by rw [List.length_drop]; omega, by omega, fun _ => ⟨g, o + u, rfl, fun i hi => ?_⟩⟩, fun wx => ?_⟩
  · rw [List.length_drop] at hi
    obtain ⟨g2, o2, e, hc⟩ := h.cell (by omega)
    injection e with e
    injection e with e1 e2
    subst e1 e2
    rw [Nat.add_assoc, hc (u + i) (by omega), List.getElem_drop]
  · rw [run_slice_l wx _ _ l.length c hel .i64 u (by omega) (by omega), hsz]
    simp only [Result.andThen, sliced, Int.toNat_natCast, Nat.mul_one]
    rw [if_neg (by omega)]
    simp [Addr.add_lit]
theorem Wt.flag {L B G : Nat} {w : World} {l : List UInt8} (h : Wt L B G w l) : Wt L B G (w.setCell ⟨L, 1, none⟩ (.bool false)) l := by
  obtain ⟨a, c, h0, hB, hn, ha⟩ := h.row
  have hne : ∀ ad, a = some ad → ad.block ≠ L := fun ad e => by
    obtain ⟨h1, h2, -⟩ := ha ad e
    have := h.lt
    omega
  refine ⟨h.lt, by rw [World.size_setCell]; exact h.le, ⟨a, c, (World.cell?_setCell_other _ _ _ _ (addr_ne (.inr (by show (1 : Nat) ≠ 0; decide)))).trans h0, hB.setCell hne 1 _, hn, fun ad e => ?_⟩, World.cell?_setCell_same w _ _ h.c1, by rw [World.frozen?_setCell]; exact h.f0, by rw [World.frozen?_setCell]; exact h.f1⟩
  obtain ⟨h1, h2, h3, h4, h5⟩ := ha ad e
  refine ⟨h1, h2, by rw [World.size_setCell]; exact h3, h4, fun j hj => ?_⟩
  have hGL : G ≠ L := by have := h.lt; omega
  rw [World.cell?_setCell_other _ _ _ _ (addr_ne (.inl (fun e => hGL e.symm))), World.frozen?_setCell]
  exact h5 j hj
end Go.Proofs.YtimgkbpiengnjaaGreatDoor.Ln
