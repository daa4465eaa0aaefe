/- Package table: Clear, New; what Put writes. Conditions: what is always so of a table. -/
import Derived.Test.YtpbblijnfigapaaTac
namespace Go.Proofs.Ytpbblijnfigapaa.Ta
open Go.ChangeShapes Go.WideShapes Go.ChangeAt Go.RowKit
theorem fresh_cells {w : World} {G n : Nat} {t : TypeId} (h : w.heap[G]? = some (.cells (zerosP n) t)) :
    (∀ j (hj : j < (List.replicate n zeroPl).length), w.cell? ⟨G, j * 3, none⟩ = some (.int .i64 (List.replicate n zeroPl)[j].i) ∧ w.cell? ⟨G, j * 3 + 1, none⟩ = some (.string (List.replicate n zeroPl)[j].k) ∧ w.cell? ⟨G, j * 3 + 2, none⟩ = some (.int .i64 (List.replicate n zeroPl)[j].n)) ∧ ∀ i, w.frozen? ⟨G, i, none⟩ = false := by
  refine ⟨fun j hj => ?_, fun i => by simp [World.frozen?, h]⟩
  have hj : j < n := by rwa [List.length_replicate] at hj
  rw [List.getElem_replicate]
  have hs := zerosP_size n
  have hat : ∀ i (hi : i < n * 3), (zerosP n)[i]? = some ((Value.agg #[.int .i64 0, .string ⟨#[]⟩, .int .i64 0]).cells[i % (Value.agg #[.int .i64 0, .string ⟨#[]⟩, .int .i64 0]).cells.size]!) := fun i hi => by
    unfold zerosP madeCells
    rw [Array.getElem?_map, Array.getElem?_range]
    simp [hi]
  have m0 : j * 3 % 3 = 0 := by omega
  have m1 : (j * 3 + 1) % 3 = 1 := by omega
  have m2 : (j * 3 + 2) % 3 = 2 := by omega
  have hz : (Value.agg #[.int .i64 0, .string ⟨#[]⟩, .int .i64 0]).cells.size = 3 := rfl
  have a0 := hat (j * 3) (by omega)
  have a1 := hat (j * 3 + 1) (by omega)
  have a2 := hat (j * 3 + 2) (by omega)
  rw [hz, m0] at a0
  rw [hz, m1] at a1
  rw [hz, m2] at a2
  simp only [World.cell?, h]
  exact ⟨a0, a1, a2⟩
theorem TAt.lts {w : World} {T G1 G2 : Nat} {s : St} (h : TAt w T G1 G2 s) (hl : 0 < s.now.length) {i : Nat} (hi : own T G1 G2 s i) : i < w.heap.size := by
  rcases hi with rfl | rfl | ⟨hn, rfl⟩
  · exact h.a.lt
  · exact h.a.ltG hl
  · exact h.b.ltG hn
theorem Moved.trans {T G1 G2 H1 H2 : Nat} {s s1 s2 : St} {w w1 w2 : World} (hf : Fr (own T G1 G2 s) w w1) (hs : ∀ i, own T H1 H2 s1 i → own T G1 G2 s i ∨ w.heap.size ≤ i) (k : Moved T H1 H2 s1 w1 s2 w2) : Moved T G1 G2 s w s2 w2 := by
  obtain ⟨K1, K2, a, b, c⟩ := k
  refine ⟨K1, K2, a, ⟨b.os.trans hf.os, b.tape.trans hf.tape, b.output.trans hf.output, Nat.le_trans hf.size b.size, fun i hi hn => ?_⟩, fun i hi => ?_⟩
  · rw [b.block i (Nat.lt_of_lt_of_le hi hf.size) (fun ho => by rcases hs i ho with h | h; exact hn h; omega), hf.block i hi hn]
  · rcases c i hi with h | h
    · exact hs i h
    · exact .inr (Nat.le_trans hf.size h)
set_option maxHeartbeats 2000000 in
theorem newT_calls (w : World) :
    Calls Try.prog 9 #[] w fun e w' => e = .returned (.pointer (some ⟨w.heap.size + 2, 0, none⟩)) ∧ TAt w' (w.heap.size + 2) (w.heap.size + 1) (w.heap.size + 1) newS ∧ Below w.heap.size w w' := by
  refine (new_calls w).mono ?_
  rintro en w' ⟨W2, h1, h2, h3, rfl, rfl⟩
  have hb := h1.trans ((bbox (w := W2) (.cells #[.slice (some ⟨w.heap.size + 1, 0, none⟩) 8 8, .int .i64 0, .int .i64 0, .slice none 0 0, .int .i64 0, .int .i64 0, .int .i64 0] 50)).mono (by omega))
  refine ⟨rfl, ?_, hb⟩
  obtain ⟨f1, f2⟩ := fresh_cells h3
  have hT : (W2.alloc (.cells #[.slice (some ⟨w.heap.size + 1, 0, none⟩) 8 8, .int .i64 0, .int .i64 0, .slice none 0 0, .int .i64 0, .int .i64 0, .int .i64 0] 50)).heap[w.heap.size + 2]? = some (.cells #[.slice (some ⟨w.heap.size + 1, 0, none⟩) 8 8, .int .i64 0, .int .i64 0, .slice none 0 0, .int .i64 0, .int .i64 0, .int .i64 0] 50) := by rw [← h2]; exact heap_alloc_new W2 _
  have hb2 := bbox (w := W2) (.cells #[.slice (some ⟨w.heap.size + 1, 0, none⟩) 8 8, .int .i64 0, .int .i64 0, .slice none 0 0, .int .i64 0, .int .i64 0, .int .i64 0] 50)
  generalize W2.alloc (.cells #[.slice (some ⟨w.heap.size + 1, 0, none⟩) 8 8, .int .i64 0, .int .i64 0, .slice none 0 0, .int .i64 0, .int .i64 0, .int .i64 0] 50) = W3 at *
  have hfz : ∀ i, W3.frozen? ⟨w.heap.size + 2, i, none⟩ = false := fun i => by simp [World.frozen?, hT]
  refine ⟨⟨⟨some ⟨w.heap.size + 1, 0, none⟩, by simp [World.cell?, hT, newS], fun _ => rfl⟩, by simp [World.cell?, hT, newS], by simp [World.cell?, hT, newS], hfz, fun j hj => ?_, fun _ i => ?_, fun _ => by omega⟩, ⟨⟨none, by simp [World.cell?, hT, newS], fun hn => absurd hn (Nat.lt_irrefl _)⟩, by simp [World.cell?, hT, newS], by simp [World.cell?, hT, newS], hfz, fun j hj => absurd hj (Nat.not_lt_zero _), fun hn => absurd hn (Nat.lt_irrefl _), fun hn => absurd hn (Nat.lt_irrefl _)⟩, by simp [World.cell?, hT, newS], fun hn => absurd hn (Nat.lt_irrefl _)⟩
  · have := f1 j hj
    rw [← hb2.cell (p := ⟨w.heap.size + 1, j * 3, none⟩) (by show w.heap.size + 1 < W2.heap.size; omega), ← hb2.cell (p := ⟨w.heap.size + 1, j * 3 + 1, none⟩) (by show w.heap.size + 1 < W2.heap.size; omega), ← hb2.cell (p := ⟨w.heap.size + 1, j * 3 + 2, none⟩) (by show w.heap.size + 1 < W2.heap.size; omega)] at this
    exact this
  · exact (hb2.frozen (p := ⟨w.heap.size + 1, i, none⟩) (by show w.heap.size + 1 < W2.heap.size; omega)).trans (f2 i)
set_option maxHeartbeats 2000000 in
set_option maxRecDepth 100000 in
theorem clear_calls (w : World) (T G1 G2 : Nat) (s : St) (hT : TAt w T G1 G2 s) :
    Calls Try.prog 18 #[.pointer (some ⟨T, 0, none⟩)] w fun e w' => e = .returned (.tuple #[]) ∧ Moved T G1 G2 s w newS w' := by
  have H0 := Lib.hid (ofRoom_calls w 8 (by omega))
  have HT := Lib.hid hT
  have HTl := hT.a.lt
  clear hT
  go_enter Try.func18, Try.ntmps18
  go_wp2_with fail
  refine H0.out.mono ?_; rintro en w2 ⟨rfl, h1, h2, h3⟩
  have HTW := Lib.hid (HT.out.below h1)
  have H1 := Lib.hid h1
  obtain ⟨f1, f2⟩ := fresh_cells h3
  have HZ := Lib.hid (setT_done (l := List.replicate 8 zeroPl) (e := 0) (d := 0) HTW.out f1 f2 (by omega))
  obtain ⟨x0, c0, -⟩ := HTW.out.a.c0
  obtain ⟨x3, c3, -⟩ := HTW.out.b.c0
  have c1 := HTW.out.a.c1
  have c2 := HTW.out.a.c2
  have c4 := HTW.out.b.c1
  have c5 := HTW.out.b.c2
  have c6 := HTW.out.m
  have hft := HTW.out.a.ft
  clear h1 h3 f1 f2
  go_wp2_with fail
  go_end0
  refine ⟨rfl, w.heap.size + 1, w.heap.size + 1, HZ.out.1, (Fr.of_below H1.out).trans (HZ.out.2.mono fun i e => .inl e), fun i hi => ?_⟩
  rcases hi with e | e | ⟨e, -⟩
  · exact .inl (.inl e)
  · exact .inr (by omega)
  · exact absurd e (Nat.lt_irrefl _)
theorem PAt.set_n {w : World} {T o G : Nat} {l : List Pl} {e d : Int} (h : PAt w T o G l e d) (p : Nat) (hp : p < l.length) (n : Int) : PAt (w.setCell ⟨G, p * 3 + 2, none⟩ (.int .i64 n)) T o G (setN l p n) e d ∧ Ch T o G w (w.setCell ⟨G, p * 3 + 2, none⟩ (.int .i64 n)) := by
  obtain ⟨a, h0, ha⟩ := h.c0
  have hn := h.ne (by omega)
  have ot : ∀ i, (w.setCell ⟨G, p * 3 + 2, none⟩ (.int .i64 n)).cell? ⟨T, i, none⟩ = w.cell? ⟨T, i, none⟩ := fun i => World.cell?_setCell_other _ _ _ _ (addr_ne (.inl hn))
  have fz : ∀ a, (w.setCell ⟨G, p * 3 + 2, none⟩ (.int .i64 n)).frozen? a = w.frozen? a := fun a => World.frozen?_setCell ..
  have og : ∀ i, i ≠ p * 3 + 2 → (w.setCell ⟨G, p * 3 + 2, none⟩ (.int .i64 n)).cell? ⟨G, i, none⟩ = w.cell? ⟨G, i, none⟩ := fun i hi => World.cell?_setCell_other _ _ _ _ (addr_ne (.inr (fun e => hi e.symm)))
  refine ⟨⟨⟨a, by rw [ot, setN_len]; exact h0, by rw [setN_len]; exact ha⟩, (ot _).trans h.c1, (ot _).trans h.c2, fun i => (fz _).trans (h.ft i), fun j hj => ?_, fun hl i => (fz _).trans (h.fg (by omega) i), fun _ => hn⟩, Fr.setCell _ _ (.inr rfl) _, fun i _ => ot i, fun a _ => fz a⟩
  have hj : j < l.length := by rwa [setN_len] at hj
  have hx := h.pl j hj
  by_cases hjp : j = p
  · subst hjp
    have e : (setN l j n)[j]'(by rw [setN_len]; exact hp) = ⟨(pAt l j).i, (pAt l j).k, n⟩ := by unfold setN; rw [List.getElem_set_self]
    rw [e, og _ (by omega), og _ (by omega)]
    have e2 := pAt_lt hp
    rw [e2]
    exact ⟨hx.1, hx.2.1, World.cell?_setCell_same w _ _ hx.2.2⟩
  · have e : (setN l p n)[j]'(by rw [setN_len]; exact hj) = l[j] := by unfold setN; rw [List.getElem_set_ne (fun e => hjp e.symm)]
    rw [e, og _ (by omega), og _ (by omega), og _ (by omega)]
    exact hx
/-- The place's number is another one. -/
theorem put_found0 {w : World} {T G1 G2 : Nat} {u : St} (h : TAt w T G1 G2 u) (p : Nat) (hp : p < u.now.length) (n : Int) : Moved T G1 G2 u w { u with now := setN u.now p n } (w.setCell ⟨G1, p * 3 + 2, none⟩ (.int .i64 n)) := by
  obtain ⟨a, b⟩ := h.a.set_n p hp n
  exact ⟨G1, G2, ⟨a, h.b.ch b (.inr (Nat.le_refl _)) (fun hn e => h.g hn e.symm), (b.ot 6 (by omega)).trans h.m, h.g⟩, b.fr.mono fun i e => by rcases e with e | e; exact .inl e; exact .inr (.inl e), fun i hi => .inl hi⟩
theorem put_found3 {w : World} {T G1 G2 : Nat} {u : St} (h : TAt w T G1 G2 u) (p : Nat) (hp : p < u.nxt.length) (n : Int) : Moved T G1 G2 u w { u with nxt := setN u.nxt p n } (w.setCell ⟨G2, p * 3 + 2, none⟩ (.int .i64 n)) := by
  obtain ⟨a, b⟩ := h.b.set_n p hp n
  have hn : 0 < u.nxt.length := by omega
  exact ⟨G1, G2, ⟨h.a.ch b (.inl (Nat.le_refl _)) (fun _ => h.g hn), a, (b.ot 6 (by omega)).trans h.m, fun _ => h.g hn⟩, b.fr.mono fun i e => by rcases e with e | e; exact .inl e; exact .inr (.inr ⟨hn, e⟩), fun i hi => .inl (by
    rcases hi with e | e | ⟨_, e⟩
    · exact .inl e
    · exact .inr (.inl e)
    · exact .inr (.inr ⟨hn, e⟩))⟩
/-- New places to be moved into. -/
theorem beg_done {w : World} {T G1 G2 G N : Nat} {u : St} (h : TAt w T G1 G2 u) (hl : 0 < u.now.length) (pl : ∀ j (hj : j < (List.replicate N zeroPl).length), w.cell? ⟨G, j * 3, none⟩ = some (.int .i64 (List.replicate N zeroPl)[j].i) ∧ w.cell? ⟨G, j * 3 + 1, none⟩ = some (.string (List.replicate N zeroPl)[j].k) ∧ w.cell? ⟨G, j * 3 + 2, none⟩ = some (.int .i64 (List.replicate N zeroPl)[j].n))
    (fg : ∀ i, w.frozen? ⟨G, i, none⟩ = false) (ne : G ≠ T) (ne1 : G1 ≠ G) :
    TAt (((w.setCell ⟨T, 3, none⟩ (.slice (some ⟨G, 0, none⟩) N N)).setCell ⟨T, 4, none⟩ (.int .i64 0)).setCell ⟨T, 5, none⟩ (.int .i64 0)) T G1 G { u with nxt := List.replicate N zeroPl, e2 := 0, d2 := 0 } ∧
      Fr (fun i => i = T) w (((w.setCell ⟨T, 3, none⟩ (.slice (some ⟨G, 0, none⟩) N N)).setCell ⟨T, 4, none⟩ (.int .i64 0)).setCell ⟨T, 5, none⟩ (.int .i64 0)) := by
  obtain ⟨x3, c3, -⟩ := h.b.c0
  have c4 := h.b.c1
  have c5 := h.b.c2
  have a0 : (⟨T, 3, none⟩ : Addr) ≠ ⟨T, 4, none⟩ := addr_ne (.inr (by decide))
  have a1 : (⟨T, 3, none⟩ : Addr) ≠ ⟨T, 5, none⟩ := addr_ne (.inr (by decide))
  have a2 : (⟨T, 4, none⟩ : Addr) ≠ ⟨T, 5, none⟩ := addr_ne (.inr (by decide))
  have d3 := (World.cell?_setCell_other ((w.setCell ⟨T, 3, none⟩ (.slice (some ⟨G, 0, none⟩) N N)).setCell ⟨T, 4, none⟩ (.int .i64 0)) ⟨T, 5, none⟩ ⟨T, 3, none⟩ (.int .i64 0) a1.symm).trans ((World.cell?_setCell_other (w.setCell ⟨T, 3, none⟩ (.slice (some ⟨G, 0, none⟩) N N)) ⟨T, 4, none⟩ ⟨T, 3, none⟩ (.int .i64 0) a0.symm).trans (World.cell?_setCell_same w ⟨T, 3, none⟩ (.slice (some ⟨G, 0, none⟩) N N) c3))
  have d4 := (World.cell?_setCell_other ((w.setCell ⟨T, 3, none⟩ (.slice (some ⟨G, 0, none⟩) N N)).setCell ⟨T, 4, none⟩ (.int .i64 0)) ⟨T, 5, none⟩ ⟨T, 4, none⟩ (.int .i64 0) a2.symm).trans (World.cell?_setCell_same (w.setCell ⟨T, 3, none⟩ (.slice (some ⟨G, 0, none⟩) N N)) ⟨T, 4, none⟩ (.int .i64 0) ((World.cell?_setCell_other _ _ _ _ a0).trans c4))
  have d5 := World.cell?_setCell_same ((w.setCell ⟨T, 3, none⟩ (.slice (some ⟨G, 0, none⟩) N N)).setCell ⟨T, 4, none⟩ (.int .i64 0)) ⟨T, 5, none⟩ (.int .i64 0) ((World.cell?_setCell_other _ _ _ _ a2).trans ((World.cell?_setCell_other _ _ _ _ a1).trans c5))
  have hot : ∀ i, i ≠ 3 → i ≠ 4 → i ≠ 5 → (((w.setCell ⟨T, 3, none⟩ (.slice (some ⟨G, 0, none⟩) N N)).setCell ⟨T, 4, none⟩ (.int .i64 0)).setCell ⟨T, 5, none⟩ (.int .i64 0)).cell? ⟨T, i, none⟩ = w.cell? ⟨T, i, none⟩ := fun i h3 h4 h5 => by
    rw [World.cell?_setCell_other _ _ _ _ (addr_ne (.inr (fun e => h5 e.symm))), World.cell?_setCell_other _ _ _ _ (addr_ne (.inr (fun e => h4 e.symm))), World.cell?_setCell_other _ _ _ _ (addr_ne (.inr (fun e => h3 e.symm)))]
  have hfz : ∀ a, (((w.setCell ⟨T, 3, none⟩ (.slice (some ⟨G, 0, none⟩) N N)).setCell ⟨T, 4, none⟩ (.int .i64 0)).setCell ⟨T, 5, none⟩ (.int .i64 0)).frozen? a = w.frozen? a := fun a => by rw [World.frozen?_setCell, World.frozen?_setCell, World.frozen?_setCell]
  have hg : ∀ i, (((w.setCell ⟨T, 3, none⟩ (.slice (some ⟨G, 0, none⟩) N N)).setCell ⟨T, 4, none⟩ (.int .i64 0)).setCell ⟨T, 5, none⟩ (.int .i64 0)).cell? ⟨G, i, none⟩ = w.cell? ⟨G, i, none⟩ := fun i => by
    rw [World.cell?_setCell_other _ _ _ _ (addr_ne (.inl (fun e => ne e.symm))), World.cell?_setCell_other _ _ _ _ (addr_ne (.inl (fun e => ne e.symm))), World.cell?_setCell_other _ _ _ _ (addr_ne (.inl (fun e => ne e.symm)))]
  have hfr : Fr (fun i => i = T) w (((w.setCell ⟨T, 3, none⟩ (.slice (some ⟨G, 0, none⟩) N N)).setCell ⟨T, 4, none⟩ (.int .i64 0)).setCell ⟨T, 5, none⟩ (.int .i64 0)) := ((Fr.setCell (S := fun i => i = T) _ ⟨T, 3, none⟩ rfl _).trans (Fr.setCell (S := fun i => i = T) _ ⟨T, 4, none⟩ rfl _)).trans (Fr.setCell (S := fun i => i = T) _ ⟨T, 5, none⟩ rfl _)
  have hlen : (List.replicate N zeroPl).length = N := List.length_replicate
  generalize (((w.setCell ⟨T, 3, none⟩ (.slice (some ⟨G, 0, none⟩) N N)).setCell ⟨T, 4, none⟩ (.int .i64 0)).setCell ⟨T, 5, none⟩ (.int .i64 0)) = W at *
  exact ⟨⟨h.a.keep (fun i hi => hot _ (by omega) (by omega) (by omega)) (fun i => hfz _) (fun _ => hfr.block G1 (h.a.ltG hl) (h.a.ne hl)), ⟨⟨some ⟨G, 0, none⟩, by show W.cell? ⟨T, 3, none⟩ = some (.slice (some ⟨G, 0, none⟩) (List.replicate N zeroPl).length (List.replicate N zeroPl).length); rw [hlen]; exact d3, fun _ => rfl⟩, d4, d5, fun i => (hfz _).trans (h.a.ft i), fun j hj => by rw [hg, hg, hg]; exact pl j hj, fun _ i => (hfz _).trans (fg i), fun _ => ne⟩, (hot 6 (by decide) (by decide) (by decide)).trans h.m, fun _ => ne1⟩, hfr⟩
end Go.Proofs.Ytpbblijnfigapaa.Ta
