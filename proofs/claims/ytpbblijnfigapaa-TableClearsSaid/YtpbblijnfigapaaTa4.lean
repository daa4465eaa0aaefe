/- Package table's places: an entry comes (add), an entry goes (bury). Conditions: bounds; an empty place is there. -/
import Derived.Test.YtpbblijnfigapaaTa3
namespace Go.Proofs.Ytpbblijnfigapaa.Ta
open Go.ChangeShapes Go.WideShapes Go.ChangeAt Go.RowKit
theorem addr_ne {b c i j : Nat} (h : b ≠ c ∨ i ≠ j) : (⟨b, i, none⟩ : Addr) ≠ ⟨c, j, none⟩ := by
  intro e
  injection e with e1 e2
  rcases h with h | h
  · exact h e1
  · exact h e2
/-- Of w all blocks stand in w' but those that S names. -/
structure Fr (S : Nat → Prop) (w w' : World) : Prop where
  os : w'.os = w.os
  tape : w'.tape = w.tape
  output : w'.output = w.output
  size : w.heap.size ≤ w'.heap.size
  block : ∀ i, i < w.heap.size → ¬ S i → w'.heap[i]? = w.heap[i]?
theorem Fr.below {S : Nat → Prop} {B : Nat} {w w' : World} (h : Fr S w w') (hB : B ≤ w.heap.size) (hS : ∀ i, i < B → ¬ S i) : Below B w w' := ⟨h.os, h.tape, h.output, h.size, fun i hi => h.block i (Nat.lt_of_lt_of_le hi hB) (hS i hi)⟩
theorem Fr.of_below {S : Nat → Prop} {w w' : World} (h : Below w.heap.size w w') : Fr S w w' := ⟨h.os, h.tape, h.output, h.size, fun i hi _ => h.block i hi⟩
theorem Fr.trans {S : Nat → Prop} {a b c : World} (h : Fr S a b) (k : Fr S b c) : Fr S a c :=
  ⟨k.os.trans h.os, k.tape.trans h.tape, k.output.trans h.output, Nat.le_trans h.size k.size, fun i hi hs => (k.block i (Nat.lt_of_lt_of_le hi h.size) hs).trans (h.block i hi hs)⟩
theorem Fr.mono {S T : Nat → Prop} {a b : World} (h : Fr S a b) (hST : ∀ i, S i → T i) : Fr T a b := ⟨h.os, h.tape, h.output, h.size, fun i hi hs => h.block i hi fun hx => hs (hST i hx)⟩
theorem Fr.setCell {S : Nat → Prop} (w : World) (p : Addr) (hp : S p.block) (v : Value) : Fr S w (w.setCell p v) := by
  have h := Below.setCell (p := p) (Below.refl p.block w) (Nat.le_refl _) v
  refine ⟨h.os, h.tape, h.output, h.size, fun i hi hs => ?_⟩
  have hne : i ≠ p.block := fun e => hs (e ▸ hp)
  exact Below.heap_setCell w p v i hne
/-- Only the places at o of block T, with the list G, are other ones in w'; new blocks may be there. -/
structure Ch (T o G : Nat) (w w' : World) : Prop where
  fr : Fr (fun i => i = T ∨ i = G) w w'
  ot : ∀ i, (i < o ∨ o + 3 ≤ i) → w'.cell? ⟨T, i, none⟩ = w.cell? ⟨T, i, none⟩
  fz : ∀ a : Addr, a.block < w.heap.size → w'.frozen? a = w.frozen? a
theorem Ch.trans {T o G : Nat} {a b c : World} (h : Ch T o G a b) (k : Ch T o G b c) : Ch T o G a c :=
  ⟨h.fr.trans k.fr, fun i hi => (k.ot i hi).trans (h.ot i hi), fun x hx => (k.fz x (Nat.lt_of_lt_of_le hx h.fr.size)).trans (h.fz x hx)⟩
theorem Ch.of_below {T o G : Nat} {w w' : World} (hT : T < w.heap.size) (h : Below w.heap.size w w') : Ch T o G w w' :=
  ⟨Fr.of_below h, fun _ _ => h.cell hT, fun _ hx => h.frozen hx⟩
theorem PAt.lt {w : World} {T o G : Nat} {l : List Pl} {e d : Int} (h : PAt w T o G l e d) : T < w.heap.size := World.block_lt_of_cell? w _ h.c1
theorem PAt.ltG {w : World} {T o G : Nat} {l : List Pl} {e d : Int} (h : PAt w T o G l e d) (hl : 0 < l.length) : G < w.heap.size := World.block_lt_of_cell? w _ (h.pl 0 hl).1
/-- What touches neither the object nor its list. -/
theorem PAt.keep {w w' : World} {T o G : Nat} {l : List Pl} {e d : Int} (h : PAt w T o G l e d) (hc : ∀ i, i < 3 → w'.cell? ⟨T, o + i, none⟩ = w.cell? ⟨T, o + i, none⟩) (hf : ∀ i, w'.frozen? ⟨T, i, none⟩ = w.frozen? ⟨T, i, none⟩) (hg : 0 < l.length → w'.heap[G]? = w.heap[G]?) : PAt w' T o G l e d := by
  obtain ⟨a, h0, ha⟩ := h.c0
  refine ⟨⟨a, (hc 0 (by omega)).trans h0, ha⟩, (hc 1 (by omega)).trans h.c1, (hc 2 (by omega)).trans h.c2, fun i => (hf i).trans (h.ft i), fun j hj => ?_, fun hl i => ?_, h.ne⟩
  · have hg := hg (by omega)
    have := h.pl j hj
    simp only [World.cell?, hg] at this ⊢
    exact this
  · have := h.fg hl i
    simp only [World.frozen?, hg hl] at this ⊢
    exact this
theorem PAt.below {w w' : World} {T o G : Nat} {l : List Pl} {e d : Int} (h : PAt w T o G l e d) (hb : Below w.heap.size w w') : PAt w' T o G l e d :=
  h.keep (fun _ _ => hb.cell h.lt) (fun _ => hb.frozen h.lt) (fun hl => hb.block G (h.ltG hl))
/-- The other places of the same block. -/
theorem PAt.ch {w w' : World} {T o G o2 G2 : Nat} {l : List Pl} {e d : Int} (h : PAt w T o G l e d) (k : Ch T o2 G2 w w') (ho : o + 3 ≤ o2 ∨ o2 + 3 ≤ o) (hG : 0 < l.length → G ≠ G2) : PAt w' T o G l e d :=
  h.keep (fun i hi => k.ot (o + i) (by omega)) (fun i => k.fz _ h.lt) (fun hl => k.fr.block G (h.ltG hl) (by rintro (e | e); exact h.ne hl e; exact hG hl e))
theorem PAt.set_e {w : World} {T o G : Nat} {l : List Pl} {e d : Int} (h : PAt w T o G l e d) (e' : Int) : PAt (w.setCell ⟨T, o + 1, none⟩ (.int .i64 e')) T o G l e' d ∧ Ch T o G w (w.setCell ⟨T, o + 1, none⟩ (.int .i64 e')) := by
  obtain ⟨a, h0, ha⟩ := h.c0
  have ot : ∀ i, i ≠ o + 1 → (w.setCell ⟨T, o + 1, none⟩ (.int .i64 e')).cell? ⟨T, i, none⟩ = w.cell? ⟨T, i, none⟩ := fun i hi => World.cell?_setCell_other _ _ _ _ (addr_ne (.inr (fun e => hi e.symm)))
  refine ⟨⟨⟨a, (ot o (by omega)).trans h0, ha⟩, World.cell?_setCell_same w _ _ h.c1, (ot (o + 2) (by omega)).trans h.c2, fun i => by rw [World.frozen?_setCell]; exact h.ft i, fun j hj => ?_, fun hl i => by rw [World.frozen?_setCell]; exact h.fg hl i, h.ne⟩, Fr.setCell _ _ (.inl rfl) _, fun i hi => ot i (by omega), fun a _ => World.frozen?_setCell ..⟩
  have hn := h.ne (by omega)
  have og : ∀ i, (w.setCell ⟨T, o + 1, none⟩ (.int .i64 e')).cell? ⟨G, i, none⟩ = w.cell? ⟨G, i, none⟩ := fun i => World.cell?_setCell_other _ _ _ _ (addr_ne (.inl (fun e => hn e.symm)))
  rw [og, og, og]
  exact h.pl j hj
theorem PAt.set_d {w : World} {T o G : Nat} {l : List Pl} {e d : Int} (h : PAt w T o G l e d) (d' : Int) : PAt (w.setCell ⟨T, o + 2, none⟩ (.int .i64 d')) T o G l e d' ∧ Ch T o G w (w.setCell ⟨T, o + 2, none⟩ (.int .i64 d')) := by
  obtain ⟨a, h0, ha⟩ := h.c0
  have ot : ∀ i, i ≠ o + 2 → (w.setCell ⟨T, o + 2, none⟩ (.int .i64 d')).cell? ⟨T, i, none⟩ = w.cell? ⟨T, i, none⟩ := fun i hi => World.cell?_setCell_other _ _ _ _ (addr_ne (.inr (fun e => hi e.symm)))
  refine ⟨⟨⟨a, (ot o (by omega)).trans h0, ha⟩, (ot (o + 1) (by omega)).trans h.c1, World.cell?_setCell_same w _ _ h.c2, fun i => by rw [World.frozen?_setCell]; exact h.ft i, fun j hj => ?_, fun hl i => by rw [World.frozen?_setCell]; exact h.fg hl i, h.ne⟩, Fr.setCell _ _ (.inl rfl) _, fun i hi => ot i (by omega), fun a _ => World.frozen?_setCell ..⟩
  have hn := h.ne (by omega)
  have og : ∀ i, (w.setCell ⟨T, o + 2, none⟩ (.int .i64 d')).cell? ⟨G, i, none⟩ = w.cell? ⟨G, i, none⟩ := fun i => World.cell?_setCell_other _ _ _ _ (addr_ne (.inl (fun e => hn e.symm)))
  rw [og, og, og]
  exact h.pl j hj
def setPl (w : World) (G p : Nat) (q : Pl) : World := ((w.setCell ⟨G, p * 3, none⟩ (.int .i64 q.i)).setCell ⟨G, p * 3 + 1, none⟩ (.string q.k)).setCell ⟨G, p * 3 + 2, none⟩ (.int .i64 q.n)
theorem setPl_other {w : World} {G p : Nat} {q : Pl} {b i : Nat} (h : b ≠ G ∨ i < p * 3 ∨ p * 3 + 3 ≤ i) : (setPl w G p q).cell? ⟨b, i, none⟩ = w.cell? ⟨b, i, none⟩ := by
  unfold setPl
  rw [World.cell?_setCell_other _ _ _ _ (addr_ne (by omega)), World.cell?_setCell_other _ _ _ _ (addr_ne (by omega)), World.cell?_setCell_other _ _ _ _ (addr_ne (by omega))]
theorem PAt.set_pl {w : World} {T o G : Nat} {l : List Pl} {e d : Int} (h : PAt w T o G l e d) (p : Nat) (hp : p < l.length) (q : Pl) : PAt (setPl w G p q) T o G (l.set p q) e d ∧ Ch T o G w (setPl w G p q) := by
  obtain ⟨a, h0, ha⟩ := h.c0
  have hn := h.ne (by omega)
  have ot : ∀ i, (setPl w G p q).cell? ⟨T, i, none⟩ = w.cell? ⟨T, i, none⟩ := fun i => setPl_other (.inl (fun e => hn e.symm))
  have fz : ∀ a, (setPl w G p q).frozen? a = w.frozen? a := fun a => by unfold setPl; rw [World.frozen?_setCell, World.frozen?_setCell, World.frozen?_setCell]
  refine ⟨⟨⟨a, by rw [ot, List.length_set]; exact h0, by rw [List.length_set]; exact ha⟩, (ot _).trans h.c1, (ot _).trans h.c2, fun i => (fz _).trans (h.ft i), fun j hj => ?_, fun hl i => (fz _).trans (h.fg (by omega) i), fun _ => hn⟩, ?_, fun i _ => ot i, fun a _ => fz a⟩
  · by_cases hjp : j = p
    · subst hjp
      obtain ⟨k0, k1, k2⟩ := h.pl j hp
      rw [List.getElem_set_self]
      unfold setPl
      have a1 : (⟨G, j * 3 + 1, none⟩ : Addr) ≠ ⟨G, j * 3, none⟩ := addr_ne (.inr (by omega))
      have a2 : (⟨G, j * 3 + 2, none⟩ : Addr) ≠ ⟨G, j * 3, none⟩ := addr_ne (.inr (by omega))
      have a3 : (⟨G, j * 3 + 2, none⟩ : Addr) ≠ ⟨G, j * 3 + 1, none⟩ := addr_ne (.inr (by omega))
      refine ⟨?_, ?_, ?_⟩
      · rw [World.cell?_setCell_other _ _ _ _ a2, World.cell?_setCell_other _ _ _ _ a1]
        exact World.cell?_setCell_same w _ _ k0
      · rw [World.cell?_setCell_other _ _ _ _ a3]
        exact World.cell?_setCell_same _ _ _ ((World.cell?_setCell_other _ _ _ _ a1.symm).trans k1)
      · exact World.cell?_setCell_same _ _ _ ((World.cell?_setCell_other _ _ _ _ a3.symm).trans ((World.cell?_setCell_other _ _ _ _ a2.symm).trans k2))
    · rw [List.getElem_set_ne (fun e => hjp e.symm), setPl_other (by omega), setPl_other (by omega), setPl_other (by omega)]
      exact h.pl j (by rw [List.length_set] at hj; exact hj)
  · unfold setPl
    exact ((Fr.setCell _ ⟨G, p * 3, none⟩ (.inr rfl) _).trans (Fr.setCell _ ⟨G, p * 3 + 1, none⟩ (.inr rfl) _)).trans (Fr.setCell _ ⟨G, p * 3 + 2, none⟩ (.inr rfl) _)
def addT (l : List Pl) (h : Nat) : Nat := ((List.range l.length).find? fun t => !((pAt l (pos l.length h t)).i == 1)).getD 0
def addI (l : List Pl) (h : Nat) : Nat := pos l.length h (addT l h)
theorem addI_of {l : List Pl} {h t : Nat} (ht : t < l.length) (hs : ((pAt l (pos l.length h t)).i == 1) = false) (hl : ∀ s, s < t → ((pAt l (pos l.length h s)).i == 1) = true) : addI l h = pos l.length h t := by
  unfold addI addT
  rw [show (List.range l.length).find? (fun t => !((pAt l (pos l.length h t)).i == 1)) = some t from find_range ht (by rw [hs]; rfl) (fun s h2 => by rw [hl s h2]; rfl)]
  rfl
def graveI (l : List Pl) (p : Nat) : Bool := (pAt l p).i == 2
def addD (l : List Pl) (p : Nat) (d : Int) : Int := if graveI l p then d - 1 else d
theorem add_done0 {w : World} {T o G : Nat} {l : List Pl} {e d : Int} (h : PAt w T o G l e d) (p : Nat) (hp : p < l.length) (k : ByteArray) (n : Int) (hg : graveI l p = false) :
    PAt ((setPl w G p ⟨1, k, n⟩).setCell ⟨T, o + 1, none⟩ (.int .i64 (e + 1))) T o G (l.set p ⟨1, k, n⟩) (e + 1) (addD l p d) ∧ Ch T o G w ((setPl w G p ⟨1, k, n⟩).setCell ⟨T, o + 1, none⟩ (.int .i64 (e + 1))) := by
  have h1 := h.set_pl p hp ⟨1, k, n⟩
  have h2 := h1.1.set_e (e + 1)
  unfold addD
  rw [hg]
  exact ⟨h2.1, h1.2.trans h2.2⟩
theorem add_done1 {w : World} {T o G : Nat} {l : List Pl} {e d : Int} (h : PAt w T o G l e d) (p : Nat) (hp : p < l.length) (k : ByteArray) (n : Int) (hg : graveI l p = true) :
    PAt ((setPl (w.setCell ⟨T, o + 2, none⟩ (.int .i64 (d - 1))) G p ⟨1, k, n⟩).setCell ⟨T, o + 1, none⟩ (.int .i64 (e + 1))) T o G (l.set p ⟨1, k, n⟩) (e + 1) (addD l p d) ∧ Ch T o G w ((setPl (w.setCell ⟨T, o + 2, none⟩ (.int .i64 (d - 1))) G p ⟨1, k, n⟩).setCell ⟨T, o + 1, none⟩ (.int .i64 (e + 1))) := by
  have h0 := h.set_d (d - 1)
  have h1 := h0.1.set_pl p hp ⟨1, k, n⟩
  have h2 := h1.1.set_e (e + 1)
  unfold addD
  rw [hg]
  exact ⟨h2.1, (h0.2.trans h1.2).trans h2.2⟩
set_option maxHeartbeats 4000000 in
set_option maxRecDepth 100000 in
theorem add_calls (w : World) (T o G : Nat) (l : List Pl) (e d : Int) (hP : PAt w T o G l e d) (k : ByteArray) (h : Nat) (hh : h < 18446744073709551616) (n : Int) (hlen : l.length ≤ 1000000) (hl0 : 0 < l.length) (hz : ∃ z, z < l.length ∧ (pAt l z).i = 0) (he : 0 ≤ e ∧ e ≤ 1000000) (hd : 0 ≤ d ∧ d ≤ 1000000) :
    Calls Try.prog 26 #[.pointer (some ⟨T, o, none⟩), .string k, .int .u64 (h : Nat), .int .i64 n] w fun en w' => en = .returned (.tuple #[]) ∧ PAt w' T o G (l.set (addI l h) ⟨1, k, n⟩) (e + 1) (addD l (addI l h) d) ∧ Ch T o G w w' := by
  obtain ⟨a, h0, ha⟩ := hP.c0
  have HP := Lib.hid hP
  have h1 := hP.c1
  have h2 := hP.c2
  have hft := hP.ft
  have hfg := hP.fg hl0
  have hne := hP.ne hl0
  obtain rfl := ha hl0
  have HF := Lib.hid (first_calls w T o _ l.length h0 hl0 hlen h hh)
  have HB := Lib.hid (fun i (hi : i < l.length) => behind_calls w T o _ l.length h0 hl0 hlen i hi)
  have HE : Hid (∃ t, t < l.length ∧ ((pAt l (pos l.length h t)).i == 1) = false) := Lib.hid (by
    obtain ⟨z, hz1, hz2⟩ := hz
    obtain ⟨t, ht, rfl⟩ := pos_onto h hz1
    exact ⟨t, ht, by rw [hz2]; rfl⟩)
  have K1 : ∀ (W : World) v, (W.setCell ⟨T, o + 2, none⟩ v).cell? ⟨T, o, none⟩ = W.cell? ⟨T, o, none⟩ := fun W v => World.cell?_setCell_other _ _ _ _ (addr_ne (.inr (by omega)))
  have K2 : ∀ (W : World) v, (W.setCell ⟨T, o + 2, none⟩ v).cell? ⟨T, o + 1, none⟩ = W.cell? ⟨T, o + 1, none⟩ := fun W v => World.cell?_setCell_other _ _ _ _ (addr_ne (.inr (by omega)))
  have K3 : ∀ (W : World) v i, (W.setCell ⟨T, o + 2, none⟩ v).cell? ⟨G, i, none⟩ = W.cell? ⟨G, i, none⟩ := fun W v i => World.cell?_setCell_other _ _ _ _ (addr_ne (.inl (fun e => hne e.symm)))
  have K4 : ∀ (W : World) v i j, (W.setCell ⟨G, i, none⟩ v).cell? ⟨T, j, none⟩ = W.cell? ⟨T, j, none⟩ := fun W v i j => World.cell?_setCell_other _ _ _ _ (addr_ne (.inl hne))
  clear ha hz hP
  go_enter Try.func26, Try.ntmps26
  go_wp2_with fail
  refine HF.out.mono ?_; rintro en w2 ⟨rfl, rfl⟩
  go_wp2_with fail
  go_loopg [8] (l.length + 1) (fun g vi wr => ∃ t : Nat, vi = .int .i64 (pos l.length h t : Nat) ∧ t ≤ l.length ∧ l.length - t ≤ g ∧ Hid (∀ s, s < t → ((pAt l (pos l.length h s)).i == 1) = true) ∧ w = wr)
  case atStart => exact ⟨0, rfl, by omega, by omega, Lib.hid (fun s hs => absurd hs (by omega)), rfl⟩
  case round =>
    obtain ⟨t, rfl, ht, hg, HN, rfl⟩ := hrel
    have htl : t < l.length := by
      obtain ⟨t2, h1, h2⟩ := HE.out
      by_cases hc : t2 < t
      · rw [HN.out t2 hc] at h2; cases h2
      · omega
    have hpl := pos_lt hl0 h t
    have HS : Hid (((pAt l (pos l.length h t)).i == 1) = true → ∀ s, s < t + 1 → ((pAt l (pos l.length h s)).i == 1) = true) := Lib.hid (fun he s hs => by
      by_cases hst : s < t
      · exact HN.out s hst
      · obtain rfl : s = t := by omega
        exact he)
    have HK := Lib.hid (fun hs => addI_of htl hs HN.out)
    have HBt := Lib.hid (HB.out _ hpl)
    rw [pos_succ] at HBt
    obtain ⟨hc0, hc1, hc2⟩ := HP.out.pl _ hpl
    have HQ := Lib.hid (pAt_lt hpl)
    generalize hpp : pos l.length h t = p at *
    rw [HQ.out] at HS HK
    have hi0 : l[p].i = l[p].i := rfl
    generalize hqi : l[p].i = qi at *
    generalize l[p].k = qk at *
    generalize l[p].n = qn at *
    have hpc : (p : Int) < (l.length : Int) := by omega
    cases hq1 : (qi == (1 : Int))
    case true =>
      have HZ := Lib.hid (HS.out hq1)
      go_wp2_with fail
      refine HBt.out.mono ?_; rintro en w2 ⟨rfl, rfl⟩
      go_wp2_with fail
      go_roundg (gk - 1)
      case measure => omega
      case rel => exact ⟨t + 1, rfl, by omega, by omega, HZ, rfl⟩
    case false =>
      have HI := Lib.hid (HK.out hq1)
      cases hq2 : (qi == (2 : Int))
      case false =>
        have HZ := Lib.hid (add_done0 HP.out p hpl k n (by unfold graveI; rw [HQ.out, hqi]; exact hq2))
        go_wp2_with fail
        go_end0
        exact ⟨rfl, by rw [HI.out]; exact HZ.out.1, HZ.out.2⟩
      case true =>
        have HZ := Lib.hid (add_done1 HP.out p hpl k n (by unfold graveI; rw [HQ.out, hqi]; exact hq2))
        go_wp2_with fail
        go_end0
        exact ⟨rfl, by rw [HI.out]; exact HZ.out.1, HZ.out.2⟩
def gravePl : Pl := ⟨2, ⟨#[]⟩, 0⟩
theorem bury_done {w : World} {T o G : Nat} {l : List Pl} {e d : Int} (h : PAt w T o G l e d) (p : Nat) (hp : p < l.length) (A : Obj) :
    PAt (((((setPl w G p gravePl).setCell ⟨T, o + 1, none⟩ (.int .i64 (e - 1))).setCell ⟨T, o + 2, none⟩ (.int .i64 (d + 1))).alloc A).alloc A) T o G (l.set p gravePl) (e - 1) (d + 1) ∧ Ch T o G w (((((setPl w G p gravePl).setCell ⟨T, o + 1, none⟩ (.int .i64 (e - 1))).setCell ⟨T, o + 2, none⟩ (.int .i64 (d + 1))).alloc A).alloc A) := by
  have h1 := h.set_pl p hp gravePl
  have h2 := h1.1.set_e (e - 1)
  have h3 := h2.1.set_d (d + 1)
  have hb := bstep (bbox (w := ((setPl w G p gravePl).setCell ⟨T, o + 1, none⟩ (.int .i64 (e - 1))).setCell ⟨T, o + 2, none⟩ (.int .i64 (d + 1))) A) (bbox A)
  exact ⟨h3.1.below hb, ((h1.2.trans h2.2).trans h3.2).trans (Ch.of_below h3.1.lt hb)⟩
theorem iPl2 : (Try.prog.info? 55).map (·.size) = some 3 := by kernel_rfl
set_option maxHeartbeats 4000000 in
set_option maxRecDepth 100000 in
theorem bury_calls (w : World) (T o G : Nat) (l : List Pl) (e d : Int) (hP : PAt w T o G l e d) (p : Nat) (hp : p < l.length) (hlen : l.length ≤ 1000000) (he : 0 ≤ e ∧ e ≤ 1000000) (hd : 0 ≤ d ∧ d ≤ 1000000) :
    Calls Try.prog 22 #[.pointer (some ⟨T, o, none⟩), .int .i64 (p : Nat)] w fun en w' => en = .returned (.agg #[.int .i64 (pAt l p).i, .string (pAt l p).k, .int .i64 (pAt l p).n]) ∧ PAt w' T o G (l.set p gravePl) (e - 1) (d + 1) ∧ Ch T o G w w' := by
  obtain ⟨a, h0, ha⟩ := hP.c0
  have HP := Lib.hid hP
  have h1 := hP.c1
  have h2 := hP.c2
  have hft := hP.ft
  have hl0 : 0 < l.length := by omega
  have hfg := hP.fg hl0
  have hne := hP.ne hl0
  have hTl := hP.lt
  have hGl := hP.ltG hl0
  obtain rfl := ha hl0
  have hpc : (p : Int) < (l.length : Int) := by omega
  obtain ⟨hc0, hc1, hc2⟩ := hP.pl _ hp
  have HQ := Lib.hid (pAt_lt hp)
  generalize hqi : l[p].i = qi at *
  generalize hqk : l[p].k = qk at *
  generalize hqn : l[p].n = qn at *
  have K2 : ∀ (W : World) v, (W.setCell ⟨T, o + 1, none⟩ v).cell? ⟨T, o + 2, none⟩ = W.cell? ⟨T, o + 2, none⟩ := fun W v => World.cell?_setCell_other _ _ _ _ (addr_ne (.inr (by omega)))
  have K4 : ∀ (W : World) v i j, (W.setCell ⟨G, i, none⟩ v).cell? ⟨T, j, none⟩ = W.cell? ⟨T, j, none⟩ := fun W v i j => World.cell?_setCell_other _ _ _ _ (addr_ne (.inl hne))
  have HZ := Lib.hid (bury_done hP p hp (.cells #[.int .i64 qi, .string qk, .int .i64 qn] 55))
  clear ha hP
  go_enter Try.func22, Try.ntmps22
  go_wp2_with fail
  have hws : (((((w.setCell ⟨G, p * 3, none⟩ (.int .i64 2)).setCell ⟨G, p * 3 + 1, none⟩ (.string ⟨#[]⟩)).setCell ⟨G, p * 3 + 2, none⟩ (.int .i64 0)).setCell ⟨T, o + 1, none⟩ (.int .i64 (e - 1))).setCell ⟨T, o + 2, none⟩ (.int .i64 (d + 1))).heap.size = w.heap.size := by simp only [World.size_setCell]
  unfold setPl gravePl at HZ
  generalize (((((w.setCell ⟨G, p * 3, none⟩ (.int .i64 2)).setCell ⟨G, p * 3 + 1, none⟩ (.string ⟨#[]⟩)).setCell ⟨G, p * 3 + 2, none⟩ (.int .i64 0)).setCell ⟨T, o + 1, none⟩ (.int .i64 (e - 1))).setCell ⟨T, o + 2, none⟩ (.int .i64 (d + 1))) = W at *
  refine bodyPost_ret (results_cell_row rfl _ _ w.heap.size 55 #[.int .i64 qi, .string qk, .int .i64 qn] (0, 0) _ rfl ?hg Try.underlying55 rfl iPl2) rfl ⟨?_, HZ.out⟩
  case hg => rw [← hws, heap_alloc_old _ _ (r := W.heap.size) (by simp), heap_alloc_new]
  rw [HQ.out, hqi, hqk, hqn]
end Go.Proofs.Ytpbblijnfigapaa.Ta
