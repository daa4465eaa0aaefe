/- What a node less leaves in memory; skip. Conditions: the tree as it lies; at most one node below the one that goes. -/
import Derived.Test.YtjfcdkmnccafaaaPd2
import Derived.Test.YtjfcdkmnccafaaaPba
import Derived.Deep.RegionWith
namespace Go.Proofs.Ytjfcdkmnccafaaa.Pb
open Go.ChangeShapes Go.WideShapes Go.ChangeAt Go.RowKit
theorem filter_less : ∀ {l : List Nat} {x : Nat}, l.Nodup → x ∈ l → (l.filter (fun c => !decide (c = x))).length + 1 = l.length
  | [], _, _, h => by cases h
  | y :: r, x, hn, h => by
    obtain ⟨h1, h2⟩ := List.nodup_cons.1 hn
    by_cases hxy : y = x
    · subst hxy
      have e : r.filter (fun c => !decide (c = y)) = r := List.filter_eq_self.2 fun c hc => by
        have : c ≠ y := fun e => h1 (e ▸ hc)
        simp [this]
      rw [List.filter_cons_of_neg (by simp), e]
      rfl
    · have hr : x ∈ r := by
        rcases List.mem_cons.1 h with e | e
        · exact absurd e.symm hxy
        · exact e
      rw [List.filter_cons_of_pos (by simp [hxy]), List.length_cons, List.length_cons, filter_less h2 hr]
/-- What stands while node b's row and the count turn. -/
theorem skip_mem {w w2 w3 : World} {A : Nat} {t : Tr} {vs : Nat → Value} {m : Nat} (h : TObj w A t vs m) {b x : Nat} {l' : List Nat} {v' : Value} (hb : b ∈ t.B) (hx : x ∈ t.ks b)
    (h2 : Below w.heap.size w w2) (hI : Ins w2 w3 (vs b) v' l') (hok : Ok (t.skip b x l')) :
    TObj ((w3.setCell ⟨b, 3, none⟩ v').setCell ⟨A, 2, none⟩ (.int .i64 ((t.B.length : Int) - 1))) A (t.skip b x l') (fun c => if c = b then v' else vs c) m ∧
    Fr (own A t vs) w ((w3.setCell ⟨b, 3, none⟩ v').setCell ⟨A, 2, none⟩ (.int .i64 ((t.B.length : Int) - 1))) ∧
    (w3.cell? ⟨b, 3, none⟩ = some (vs b) ∧ w3.frozen? ⟨b, 3, none⟩ = false ∧ (w3.setCell ⟨b, 3, none⟩ v').cell? ⟨A, 2, none⟩ = some (.int .i64 t.B.length) ∧ (w3.setCell ⟨b, 3, none⟩ v').frozen? ⟨A, 2, none⟩ = false) ∧
    ∀ y, own A (t.skip b x l') (fun c => if c = b then v' else vs c) y → own A t vs y ∨ w.heap.size ≤ y := by
  have hAl : A < w.heap.size := h.lt (.inl rfl)
  have hBl : ∀ c ∈ t.B, c < w.heap.size := fun c hc => (h.tr.nod c hc).lt
  have hbl := hBl b hb
  have hbA : b ≠ A := fun e => h.na (e ▸ hb)
  obtain ⟨hxB, -, hbxn⟩ := h.ok.kin b hb x hx
  have hbx : b ≠ x := fun e => hbxn (by rw [e])
  have e3 : ∀ y, y < w2.heap.size → (vs b).ownBlock ≠ some y → w3.heap[y]? = w2.heap[y]? := fun y hy hn => hI.gr.block y hy (fun e => hn e.symm)
  have e13 : ∀ y, y < w.heap.size → (vs b).ownBlock ≠ some y → w3.heap[y]? = w.heap[y]? := fun y hy hn => (e3 y (by have := h2.size; omega) hn).trans (h2.block y hy)
  have n3 : ∀ c ∈ t.B, NdAt w3 c (t.tx c) (t.nm c) (vs c) := fun c hc => (h.tr.nod c hc).keep (e13 c (hBl c hc) (fun e => (ob_lt h hb e).2.1 hc))
  have A3 : w3.heap[A]? = w.heap[A]? := e13 A hAl (h.nr b hb)
  have d2 : w3.cell? ⟨A, 2, none⟩ = some (.int .i64 t.B.length) := (World.cell?_of_block (a := ⟨A, 2, none⟩) A3).trans h.c2
  have dA : (w3.setCell ⟨b, 3, none⟩ v').cell? ⟨A, 2, none⟩ = some (.int .i64 t.B.length) := (World.cell?_setCell_other _ _ _ _ (addr_ne (.inl hbA))).trans d2
  have fA : (w3.setCell ⟨b, 3, none⟩ v').frozen? ⟨A, 2, none⟩ = false := by rw [World.frozen?_setCell]; exact (World.frozen?_of_block (a := ⟨A, 2, none⟩) A3).trans (h.fz 2)
  obtain ⟨W, hW⟩ : ∃ W, W = (w3.setCell ⟨b, 3, none⟩ v').setCell ⟨A, 2, none⟩ (.int .i64 ((t.B.length : Int) - 1)) := ⟨_, rfl⟩
  have e5 : ∀ y, y ≠ b → y ≠ A → W.heap[y]? = w3.heap[y]? := fun y h1 h2 => by
    rw [hW]
    exact (Below.heap_setCell _ ⟨A, 2, none⟩ _ y h2).trans (Below.heap_setCell _ ⟨b, 3, none⟩ _ y h1)
  have b5 : NdAt W b (t.tx b) (t.nm b) v' := by rw [hW]; exact ((n3 b hb).setRow v').keep (Below.heap_setCell _ ⟨A, 2, none⟩ _ b hbA)
  have f5 : ∀ p, W.frozen? p = w3.frozen? p := fun p => by rw [hW, World.frozen?_setCell, World.frozen?_setCell]
  have A5 : ∀ j, j ≠ 2 → W.cell? ⟨A, j, none⟩ = w3.cell? ⟨A, j, none⟩ := fun j hj => by
    rw [hW, World.cell?_setCell_other _ _ _ _ (addr_ne (.inr (fun e => hj e.symm))), World.cell?_setCell_other _ _ _ _ (addr_ne (.inl hbA))]
  have A52 : W.cell? ⟨A, 2, none⟩ = some (.int .i64 ((t.B.length : Int) - 1)) := by
    rw [hW]
    exact World.cell?_setCell_same _ _ _ dA
  have vob : ∀ g, v'.ownBlock = some g → ((vs b).ownBlock = some g ∨ w2.heap.size ≤ g) := fun g hg => by
    rcases hI.ob with e | ⟨g', e, hl⟩
    · exact .inl (by rw [← e]; exact hg)
    · rw [hg] at e; injection e with e; exact .inr (by omega)
  have vne : ∀ g, v'.ownBlock = some g → g ≠ b ∧ g ≠ A ∧ g ∉ t.B := fun g hg => by
    rcases vob g hg with e | e
    · obtain ⟨k1, k2, k3⟩ := ob_lt h hb e
      exact ⟨fun e => k2 (e ▸ hb), k3, k2⟩
    · have := h2.size
      exact ⟨by omega, by omega, fun hg => by have := hBl g hg; omega⟩
  have row5 : KsAt W v' l' := hI.row.keep fun g hg => e5 g (vne g hg).1 (vne g hg).2.1
  have mem : ∀ c, c ∈ (t.skip b x l').B ↔ c ∈ t.B ∧ c ≠ x := fun c => by show c ∈ t.B.filter _ ↔ _; simp
  have hBlen : ((t.skip b x l').B.length : Int) = (t.B.length : Int) - 1 := by
    have := filter_less h.ok.nd hxB
    show ((t.B.filter (fun c => !decide (c = x))).length : Int) = _
    omega
  have vb : (fun c => if c = b then v' else vs c) b = v' := if_pos rfl
  have vo : ∀ c, c ≠ b → (fun c => if c = b then v' else vs c) c = vs c := fun c hcb => if_neg hcb
  rw [← hW]
  generalize (fun c => if c = b then v' else vs c) = vs' at *
  have tB : ∀ c, (t.skip b x l').tx c = t.tx c := fun c => rfl
  have mB : ∀ c, (t.skip b x l').nm c = t.nm c := fun c => rfl
  have kb : (t.skip b x l').ks b = l' := if_pos rfl
  have kB : ∀ c, c ≠ b → (t.skip b x l').ks c = t.ks c := fun c hcb => if_neg hcb
  have hrt : (t.skip b x l').rt = t.rt := rfl
  generalize t.skip b x l' = t' at *
  refine ⟨⟨⟨fun c hc0 => ?_, fun c hc0 => ?_, fun c hc0 d hd0 g hgc hgd => ?_, fun c hc0 g hg hm => ?_⟩, hok, ?_, ?_, ?_, fun j => ?_, ?_, fun c hc0 => ?_, fun c hc0 => ?_⟩, ?_, ⟨(n3 b hb).c3, (n3 b hb).fz 3, dA, fA⟩, ?_⟩
  · have hc := ((mem c).1 hc0).1
    rw [tB c, mB c]
    by_cases hcb : c = b
    · subst hcb; rw [vb]; exact b5
    · rw [vo c hcb]; exact (n3 c hc).keep (e5 c hcb (fun e => h.na (e ▸ hc)))
  · have hc := ((mem c).1 hc0).1
    by_cases hcb : c = b
    · subst hcb; rw [vb, kb]; exact row5
    · rw [vo c hcb, kB c hcb]
      refine (h.tr.row c hc).keep fun g hg => ?_
      obtain ⟨k1, k2, k3⟩ := ob_lt h hc hg
      exact (e5 g (fun e => k2 (e ▸ hb)) k3).trans (e13 g k1 (fun e => hcb (h.tr.rap c hc b hb g hg e)))
  · have hc := ((mem c).1 hc0).1
    have hd := ((mem d).1 hd0).1
    by_cases hcb : c = b <;> by_cases hdb : d = b
    · rw [hcb, hdb]
    · subst hcb
      rw [vb] at hgc; rw [vo d hdb] at hgd
      rcases vob g hgc with e | e
      · exact h.tr.rap c hc d hd g e hgd
      · have := (ob_lt h hd hgd).1; have := h2.size; omega
    · subst hdb
      rw [vb] at hgd; rw [vo c hcb] at hgc
      rcases vob g hgd with e | e
      · exact h.tr.rap c hc d hd g hgc e
      · have := (ob_lt h hc hgc).1; have := h2.size; omega
    · rw [vo c hcb] at hgc; rw [vo d hdb] at hgd
      exact h.tr.rap c hc d hd g hgc hgd
  · have hc := ((mem c).1 hc0).1
    have hm := ((mem g).1 hm).1
    by_cases hcb : c = b
    · subst hcb
      rw [vb] at hg
      exact (vne g hg).2.2 hm
    · rw [vo c hcb] at hg
      exact (ob_lt h hc hg).2.1 hm
  · rw [hrt]; exact (A5 0 (by decide)).trans ((World.cell?_of_block (a := ⟨A, 0, none⟩) A3).trans h.c0)
  · exact (A5 1 (by decide)).trans ((World.cell?_of_block (a := ⟨A, 1, none⟩) A3).trans h.c1)
  · rw [A52, hBlen]
  · rw [f5]; exact (World.frozen?_of_block (a := ⟨A, j, none⟩) A3).trans (h.fz j)
  · intro hA
    exact h.na ((mem A).1 hA).1
  · have hc := ((mem c).1 hc0).1
    intro e
    by_cases hcb : c = b
    · subst hcb; rw [vb] at e; exact (vne A e).2.1 rfl
    · rw [vo c hcb] at e; exact h.nr c hc e
  · rw [tB c]; exact h.ln c ((mem c).1 hc0).1
  · refine ⟨?_, ?_, ?_, ?_, fun y hy hn => ?_⟩
    · rw [hW]; exact hI.gr.os.trans h2.os
    · rw [hW]; exact hI.gr.tape.trans h2.tape
    · rw [hW]; exact hI.gr.output.trans h2.output
    · have e1 : W.heap.size = w3.heap.size := by rw [hW]; simp
      have := hI.gr.size; have := h2.size; omega
    · rw [e5 y (fun e => hn (.inr (.inl (e ▸ hb)))) (fun e => hn (.inl e))]
      exact e13 y hy (fun e => hn (.inr (.inr ⟨b, hb, e⟩)))
  · rintro y (e | e | ⟨c, hc0, e⟩)
    · exact .inl (.inl e)
    · exact .inl (.inr (.inl ((mem y).1 e).1))
    · have hc := ((mem c).1 hc0).1
      by_cases hcb : c = b
      · subst hcb
        rw [vb] at e
        rcases vob y e with e | e
        · exact .inl (.inr (.inr ⟨c, hc, e⟩))
        · exact .inr (by have := h2.size; omega)
      · rw [vo c hcb] at e
        exact .inl (.inr (.inr ⟨c, hc, e⟩))
end Go.Proofs.Ytjfcdkmnccafaaa.Pb
