/- What a leaf more, a fork more leave in memory. Conditions: the tree as it lies. -/
import Derived.Test.YtjfcdkmnccafaaaPb9
import Derived.Laws.OwnMore
namespace Go.Proofs.Ytjfcdkmnccafaaa.Pb
open Go.ChangeShapes Go.WideShapes Go.ChangeAt Go.RowKit
theorem ob_lt {w : World} {A : Nat} {t : Tr} {vs : Nat → Value} {m : Nat} (h : TObj w A t vs m) {b g : Nat} (hb : b ∈ t.B) (hg : (vs b).ownBlock = some g) : g < w.heap.size ∧ g ∉ t.B ∧ g ≠ A := ⟨(h.tr.row b hb).lt hg, h.tr.rno b hb g hg, fun e => h.nr b hb (by rw [hg, e])⟩
/-- What stands while node b's row and the count turn. -/
theorem leaf_mem {w w2 w3 : World} {A : Nat} {t : Tr} {vs : Nat → Value} {m : Nat} (h : TObj w A t vs m) {b x : Nat} {K : T} {l' : List Nat} {v' : Value} (hb : b ∈ t.B) (hx : x = w.heap.size) (hK : K.length ≤ 1000000)
    (h2 : Below w.heap.size w w2) (hx2 : NdAt w2 x K none (.slice none 0 0)) (hs2 : x + 1 < w2.heap.size) (hI : Ins w2 w3 (vs b) v' l') (hok : Ok (t.leaf b x K l')) :
    TObj ((w3.setCell ⟨b, 3, none⟩ v').setCell ⟨A, 2, none⟩ (.int .i64 ((t.B.length : Int) + 1))) A (t.leaf b x K l') (fun c => if c = x then .slice none 0 0 else if c = b then v' else vs c) m ∧
    Fr (own A t vs) w ((w3.setCell ⟨b, 3, none⟩ v').setCell ⟨A, 2, none⟩ (.int .i64 ((t.B.length : Int) + 1))) ∧
    ∀ y, own A (t.leaf b x K l') (fun c => if c = x then .slice none 0 0 else if c = b then v' else vs c) y → own A t vs y ∨ w.heap.size ≤ y := by
  have hAl : A < w.heap.size := h.lt (.inl rfl)
  have hBl : ∀ c ∈ t.B, c < w.heap.size := fun c hc => (h.tr.nod c hc).lt
  have hbl := hBl b hb
  have hbA : b ≠ A := fun e => h.na (e ▸ hb)
  have hxB : ∀ c ∈ t.B, c ≠ x := fun c hc => by have := hBl c hc; omega
  -- what isn't b's row stands in w3
  have e3 : ∀ y, y < w2.heap.size → (vs b).ownBlock ≠ some y → w3.heap[y]? = w2.heap[y]? := fun y hy hn => hI.gr.block y hy (fun e => hn e.symm)
  have e13 : ∀ y, y < w.heap.size → (vs b).ownBlock ≠ some y → w3.heap[y]? = w.heap[y]? := fun y hy hn => (e3 y (by have := h2.size; omega) hn).trans (h2.block y hy)
  have n3 : ∀ c ∈ t.B, NdAt w3 c (t.tx c) (t.nm c) (vs c) := fun c hc => (h.tr.nod c hc).keep (e13 c (hBl c hc) (fun e => (ob_lt h hb e).2.1 hc))
  have x3 : NdAt w3 x K none (.slice none 0 0) := hx2.keep (e3 x (by omega) (fun e => by have := (ob_lt h hb e).1; omega))
  have A3 : w3.heap[A]? = w.heap[A]? := e13 A hAl (h.nr b hb)
  have d2 : w3.cell? ⟨A, 2, none⟩ = some (.int .i64 t.B.length) := (World.cell?_of_block (a := ⟨A, 2, none⟩) A3).trans h.c2
  -- what is neither b's nor the object's block stands behind the two stores
  obtain ⟨W, hW⟩ : ∃ W, W = (w3.setCell ⟨b, 3, none⟩ v').setCell ⟨A, 2, none⟩ (.int .i64 ((t.B.length : Int) + 1)) := ⟨_, rfl⟩
  have e5 : ∀ y, y ≠ b → y ≠ A → W.heap[y]? = w3.heap[y]? := fun y h1 h2 => by
    rw [hW]
    exact (Below.heap_setCell _ ⟨A, 2, none⟩ _ y h2).trans (Below.heap_setCell _ ⟨b, 3, none⟩ _ y h1)
  have b5 : NdAt W b (t.tx b) (t.nm b) v' := by rw [hW]; exact ((n3 b hb).setRow v').keep (Below.heap_setCell _ ⟨A, 2, none⟩ _ b hbA)
  have f5 : ∀ p, W.frozen? p = w3.frozen? p := fun p => by rw [hW, World.frozen?_setCell, World.frozen?_setCell]
  have A5 : ∀ j, j ≠ 2 → W.cell? ⟨A, j, none⟩ = w3.cell? ⟨A, j, none⟩ := fun j hj => by
    rw [hW, World.cell?_setCell_other _ _ _ _ (addr_ne (.inr (fun e => hj e.symm))), World.cell?_setCell_other _ _ _ _ (addr_ne (.inl hbA))]
  have A52 : W.cell? ⟨A, 2, none⟩ = some (.int .i64 ((t.B.length : Int) + 1)) := by
    rw [hW]
    exact World.cell?_setCell_same _ _ _ ((World.cell?_setCell_other _ _ _ _ (addr_ne (.inl hbA))).trans d2)
  have vob : ∀ g, v'.ownBlock = some g → ((vs b).ownBlock = some g ∨ w2.heap.size ≤ g) := fun g hg => by
    rcases hI.ob with e | ⟨g', e, hl⟩
    · exact .inl (by rw [← e]; exact hg)
    · rw [hg] at e; injection e with e; exact .inr (by omega)
  have vne : ∀ g, v'.ownBlock = some g → g ≠ b ∧ g ≠ A ∧ g ≠ x ∧ g ∉ t.B := fun g hg => by
    rcases vob g hg with e | e
    · obtain ⟨k1, k2, k3⟩ := ob_lt h hb e
      exact ⟨fun e => k2 (e ▸ hb), k3, by omega, k2⟩
    · have := h2.size
      exact ⟨by omega, by omega, by omega, fun hg => by have := hBl g hg; omega⟩
  have row5 : KsAt W v' l' := hI.row.keep fun g hg => e5 g (vne g hg).1 (vne g hg).2.1
  have mem : ∀ c, c ∈ (t.leaf b x K l').B ↔ c ∈ t.B ∨ c = x := fun c => by show c ∈ t.B ++ [x] ↔ _; simp
  have vx : (fun c => if c = x then Value.slice none 0 0 else if c = b then v' else vs c) x = .slice none 0 0 := if_pos rfl
  have vb : (fun c => if c = x then Value.slice none 0 0 else if c = b then v' else vs c) b = v' := by show (if b = x then _ else if b = b then v' else vs b) = v'; rw [if_neg (hxB b hb), if_pos rfl]
  have vo : ∀ c ∈ t.B, c ≠ b → (fun c => if c = x then Value.slice none 0 0 else if c = b then v' else vs c) c = vs c := fun c hc hcb => by show (if c = x then _ else if c = b then v' else vs c) = _; rw [if_neg (hxB c hc), if_neg hcb]
  rw [← hW]
  generalize (fun c => if c = x then Value.slice none 0 0 else if c = b then v' else vs c) = vs' at *
  have tX : (t.leaf b x K l').tx x = K := if_pos rfl
  have tB : ∀ c ∈ t.B, (t.leaf b x K l').tx c = t.tx c := fun c hc => if_neg (hxB c hc)
  have mX : (t.leaf b x K l').nm x = none := if_pos rfl
  have mB : ∀ c ∈ t.B, (t.leaf b x K l').nm c = t.nm c := fun c hc => if_neg (hxB c hc)
  have kX : (t.leaf b x K l').ks x = [] := if_pos rfl
  have kb : (t.leaf b x K l').ks b = l' := by show (if b = x then _ else if b = b then l' else _) = l'; rw [if_neg (hxB b hb), if_pos rfl]
  have kB : ∀ c ∈ t.B, c ≠ b → (t.leaf b x K l').ks c = t.ks c := fun c hc hcb => by show (if c = x then _ else if c = b then l' else _) = _; rw [if_neg (hxB c hc), if_neg hcb]
  refine ⟨⟨⟨fun c hc0 => ?_, fun c hc0 => ?_, fun c hc0 d hd0 g hgc hgd => ?_, fun c hc0 g hg => ?_⟩, hok, ?_, ?_, ?_, fun j => ?_, ?_, fun c hc0 => ?_, fun c hc0 => ?_⟩, ?_, ?_⟩
  · rcases (mem c).1 hc0 with hc | rfl
    · rw [tB c hc, mB c hc]
      by_cases hcb : c = b
      · subst hcb; rw [vb]; exact b5
      · rw [vo c hc hcb]; exact (n3 c hc).keep (e5 c hcb (fun e => h.na (e ▸ hc)))
    · rw [tX, mX, vx]
      exact x3.keep (e5 c (fun e => hxB b hb e.symm) (by omega))
  · rcases (mem c).1 hc0 with hc | rfl
    · by_cases hcb : c = b
      · subst hcb; rw [vb, kb]; exact row5
      · rw [vo c hc hcb, kB c hc hcb]
        refine (h.tr.row c hc).keep fun g hg => ?_
        obtain ⟨k1, k2, k3⟩ := ob_lt h hc hg
        exact (e5 g (fun e => k2 (e ▸ hb)) k3).trans (e13 g k1 (fun e => hcb (h.tr.rap c hc b hb g hg e)))
    · rw [vx, kX]; exact World.ownsRow_nil _ _ _ _
  · rcases (mem c).1 hc0 with hc | rfl <;> rcases (mem d).1 hd0 with hd | rfl
    · by_cases hcb : c = b <;> by_cases hdb : d = b
      · rw [hcb, hdb]
      · subst hcb
        rw [vb] at hgc; rw [vo d hd hdb] at hgd
        rcases vob g hgc with e | e
        · exact h.tr.rap c hc d hd g e hgd
        · have := (ob_lt h hd hgd).1; have := h2.size; omega
      · subst hdb
        rw [vb] at hgd; rw [vo c hc hcb] at hgc
        rcases vob g hgd with e | e
        · exact h.tr.rap c hc d hd g hgc e
        · have := (ob_lt h hc hgc).1; have := h2.size; omega
      · rw [vo c hc hcb] at hgc; rw [vo d hd hdb] at hgd
        exact h.tr.rap c hc d hd g hgc hgd
    · rw [vx] at hgd; cases hgd
    · rw [vx] at hgc; cases hgc
    · rfl
  · rcases (mem c).1 hc0 with hc | rfl
    · intro hm
      by_cases hcb : c = b
      · subst hcb
        rw [vb] at hg
        obtain ⟨-, -, k3, k4⟩ := vne g hg
        rcases (mem g).1 hm with hm | hm
        · exact k4 hm
        · exact k3 hm
      · rw [vo c hc hcb] at hg
        obtain ⟨k1, k2, -⟩ := ob_lt h hc hg
        rcases (mem g).1 hm with hm | hm
        · exact k2 hm
        · omega
    · rw [vx] at hg; cases hg
  · exact (A5 0 (by decide)).trans ((World.cell?_of_block (a := ⟨A, 0, none⟩) A3).trans h.c0)
  · exact (A5 1 (by decide)).trans ((World.cell?_of_block (a := ⟨A, 1, none⟩) A3).trans h.c1)
  · rw [A52]
    have : ((t.leaf b x K l').B.length : Int) = (t.B.length : Int) + 1 := by show ((t.B ++ [x]).length : Int) = _; simp
    rw [this]
  · rw [f5]; exact (World.frozen?_of_block (a := ⟨A, j, none⟩) A3).trans (h.fz j)
  · intro hA
    rcases (mem A).1 hA with hA | hA
    · exact h.na hA
    · omega
  · rcases (mem c).1 hc0 with hc | rfl
    · intro e
      by_cases hcb : c = b
      · subst hcb; rw [vb] at e; exact (vne A e).2.1 rfl
      · rw [vo c hc hcb] at e; exact h.nr c hc e
    · rw [vx]; intro e; cases e
  · rcases (mem c).1 hc0 with hc | rfl
    · rw [tB c hc]; exact h.ln c hc
    · rw [tX]; exact hK
  · refine ⟨?_, ?_, ?_, ?_, fun y hy hn => ?_⟩
    · rw [hW]; exact hI.gr.os.trans h2.os
    · rw [hW]; exact hI.gr.tape.trans h2.tape
    · rw [hW]; exact hI.gr.output.trans h2.output
    · have e1 : W.heap.size = w3.heap.size := by rw [hW]; simp
      have := hI.gr.size; have := h2.size; omega
    · rw [e5 y (fun e => hn (.inr (.inl (e ▸ hb)))) (fun e => hn (.inl e))]
      exact e13 y hy (fun e => hn (.inr (.inr ⟨b, hb, e⟩)))
  · rintro y (e | e | ⟨c, hc0, e⟩)
    · exact .inl (.inl e)
    · rcases (mem y).1 e with e | e
      · exact .inl (.inr (.inl e))
      · exact .inr (by omega)
    · rcases (mem c).1 hc0 with hc | rfl
      · by_cases hcb : c = b
        · subst hcb
          rw [vb] at e
          rcases vob y e with e | e
          · exact .inl (.inr (.inr ⟨c, hc, e⟩))
          · exact .inr (by have := h2.size; omega)
        · rw [vo c hc hcb] at e
          exact .inl (.inr (.inr ⟨c, hc, e⟩))
      · rw [vx] at e; cases e
/-- What stands while a fork is laid ahead of a node below b. -/
theorem fork_mem {w w1 : World} {A : Nat} {t : Tr} {vs : Nat → Value} {m : Nat} (h : TObj w A t vs m) {b f k g cap : Nat} {p : T} {v : Value} (hb : b ∈ t.B) (hk : k < (t.ks b).length) (hv : vs b = .slice (some ⟨g, 0, none⟩) (t.ks b).length cap) (hp : p.length ≤ 1000000)
    (hN : NewNd w w1 f p v [(t.ks b)[k]]) (hok : Ok (t.fork b (t.ks b)[k] f p ((t.ks b).set k f))) :
    TObj ((w1.setCell ⟨g, k, none⟩ (ptr f)).setCell ⟨A, 2, none⟩ (.int .i64 ((t.B.length : Int) + 1))) A (t.fork b (t.ks b)[k] f p ((t.ks b).set k f)) (fun c => if c = f then v else vs c) m ∧
    Fr (own A t vs) w ((w1.setCell ⟨g, k, none⟩ (ptr f)).setCell ⟨A, 2, none⟩ (.int .i64 ((t.B.length : Int) + 1))) ∧
    ∀ y, own A (t.fork b (t.ks b)[k] f p ((t.ks b).set k f)) (fun c => if c = f then v else vs c) y → own A t vs y ∨ w.heap.size ≤ y := by
  have hAl : A < w.heap.size := h.lt (.inl rfl)
  have hBl : ∀ c ∈ t.B, c < w.heap.size := fun c hc => (h.tr.nod c hc).lt
  have hgo : (vs b).ownBlock = some g := by rw [hv]; rfl
  obtain ⟨hgl, hgB, hgA⟩ := ob_lt h hb hgo
  have hfl := hN.lo
  have hfB : ∀ c ∈ t.B, c ≠ f := fun c hc => by have := hBl c hc; omega
  have e1 : ∀ y, y < w.heap.size → w1.heap[y]? = w.heap[y]? := fun y hy => hN.bel.block y hy
  obtain ⟨W, hW⟩ : ∃ W, W = (w1.setCell ⟨g, k, none⟩ (ptr f)).setCell ⟨A, 2, none⟩ (.int .i64 ((t.B.length : Int) + 1)) := ⟨_, rfl⟩
  have e5 : ∀ y, y ≠ g → y ≠ A → W.heap[y]? = w1.heap[y]? := fun y h1 h2 => by
    rw [hW]
    exact (Below.heap_setCell _ ⟨A, 2, none⟩ _ y h2).trans (Below.heap_setCell _ ⟨g, k, none⟩ _ y h1)
  have f5 : ∀ p, W.frozen? p = w1.frozen? p := fun p => by rw [hW, World.frozen?_setCell, World.frozen?_setCell]
  have A1 : ∀ j, w1.cell? ⟨A, j, none⟩ = w.cell? ⟨A, j, none⟩ := fun j => World.cell?_of_block (a := ⟨A, j, none⟩) (e1 A hAl)
  have A5 : ∀ j, j ≠ 2 → W.cell? ⟨A, j, none⟩ = w1.cell? ⟨A, j, none⟩ := fun j hj => by
    rw [hW, World.cell?_setCell_other _ _ _ _ (addr_ne (.inr (fun e => hj e.symm))), World.cell?_setCell_other _ _ _ _ (addr_ne (.inl hgA))]
  have A52 : W.cell? ⟨A, 2, none⟩ = some (.int .i64 ((t.B.length : Int) + 1)) := by
    rw [hW]
    exact World.cell?_setCell_same _ _ _ ((World.cell?_setCell_other _ _ _ _ (addr_ne (.inl hgA))).trans ((A1 2).trans h.c2))
  have row5 : KsAt W (vs b) ((t.ks b).set k f) := by
    have h1 : KsAt w1 (vs b) (t.ks b) := (h.tr.row b hb).keep fun g' hg' => e1 g' ((h.tr.row b hb).lt hg')
    rw [hv] at h1 ⊢
    have h2 := (World.ownsRow.stored h1 k (ptr f)).1
    have h3 : KsAt (w1.setCell ⟨g, k, none⟩ (ptr f)) (.slice (some ⟨g, 0, none⟩) (t.ks b).length cap) ((t.ks b).set k f) := by
      unfold KsAt
      rw [List.length_set, List.map_set]
      exact h2
    refine h3.keep fun g' hg' => ?_
    have : g = g' := by
      have h : some g = some g' := hg'
      injection h
    rw [hW]
    exact Below.heap_setCell _ ⟨A, 2, none⟩ _ g' (by rw [← this]; exact hgA)
  have n5 : ∀ c ∈ t.B, NdAt W c (t.tx c) (t.nm c) (vs c) := fun c hc => ((h.tr.nod c hc).keep (e1 c (hBl c hc))).keep (e5 c (fun e => hgB (e ▸ hc)) (fun e => h.na (e ▸ hc)))
  have F5 : NdAt W f p none v := hN.nod.keep (e5 f (by omega) (by omega))
  have vr5 : KsAt W v [(t.ks b)[k]] := hN.row.keep fun g' hg' => e5 g' (by have := (hN.ob g' hg').1; omega) (by have := (hN.ob g' hg').1; omega)
  have mem : ∀ c, c ∈ (t.fork b (t.ks b)[k] f p ((t.ks b).set k f)).B ↔ c ∈ t.B ∨ c = f := fun c => by show c ∈ t.B ++ [f] ↔ _; simp
  have vf : (fun c => if c = f then v else vs c) f = v := if_pos rfl
  have vo : ∀ c ∈ t.B, (fun c => if c = f then v else vs c) c = vs c := fun c hc => if_neg (hfB c hc)
  rw [← hW]
  generalize (fun c => if c = f then v else vs c) = vs' at *
  have tF : (t.fork b (t.ks b)[k] f p ((t.ks b).set k f)).tx f = p := if_pos rfl
  have tB : ∀ c ∈ t.B, (t.fork b (t.ks b)[k] f p ((t.ks b).set k f)).tx c = t.tx c := fun c hc => if_neg (hfB c hc)
  have mF : (t.fork b (t.ks b)[k] f p ((t.ks b).set k f)).nm f = none := if_pos rfl
  have mB : ∀ c ∈ t.B, (t.fork b (t.ks b)[k] f p ((t.ks b).set k f)).nm c = t.nm c := fun c hc => if_neg (hfB c hc)
  have kF : (t.fork b (t.ks b)[k] f p ((t.ks b).set k f)).ks f = [(t.ks b)[k]] := if_pos rfl
  have kb : (t.fork b (t.ks b)[k] f p ((t.ks b).set k f)).ks b = (t.ks b).set k f := by show (if b = f then _ else if b = b then (t.ks b).set k f else _) = _; rw [if_neg (hfB b hb), if_pos rfl]
  have kB : ∀ c ∈ t.B, c ≠ b → (t.fork b (t.ks b)[k] f p ((t.ks b).set k f)).ks c = t.ks c := fun c hc hcb => by show (if c = f then _ else if c = b then (t.ks b).set k f else _) = _; rw [if_neg (hfB c hc), if_neg hcb]
  have hBlen : (t.fork b (t.ks b)[k] f p ((t.ks b).set k f)).B.length = t.B.length + 1 := by show (t.B ++ [f]).length = _; simp
  have hrt : (t.fork b (t.ks b)[k] f p ((t.ks b).set k f)).rt = t.rt := rfl
  generalize t.fork b (t.ks b)[k] f p ((t.ks b).set k f) = t' at *
  refine ⟨⟨⟨fun c hc0 => ?_, fun c hc0 => ?_, fun c hc0 d hd0 g' hgc hgd => ?_, fun c hc0 g' hg => ?_⟩, hok, ?_, ?_, ?_, fun j => ?_, ?_, fun c hc0 => ?_, fun c hc0 => ?_⟩, ?_, ?_⟩
  · rcases (mem c).1 hc0 with hc | rfl
    · rw [tB c hc, mB c hc, vo c hc]; exact n5 c hc
    · rw [tF, mF, vf]; exact F5
  · rcases (mem c).1 hc0 with hc | rfl
    · rw [vo c hc]
      by_cases hcb : c = b
      · subst hcb; rw [kb]; exact row5
      · rw [kB c hc hcb]
        refine (h.tr.row c hc).keep fun g' hg' => ?_
        obtain ⟨k1, k2, k3⟩ := ob_lt h hc hg'
        exact (e5 g' (fun e => hcb (h.tr.rap c hc b hb g' hg' (by rw [e]; exact hgo))) k3).trans (e1 g' k1)
    · rw [vf, kF]; exact vr5
  · rcases (mem c).1 hc0 with hc | rfl <;> rcases (mem d).1 hd0 with hd | rfl
    · rw [vo c hc] at hgc; rw [vo d hd] at hgd; exact h.tr.rap c hc d hd g' hgc hgd
    · rw [vo c hc] at hgc; rw [vf] at hgd
      have := (ob_lt h hc hgc).1; have := (hN.ob g' hgd).1; omega
    · rw [vf] at hgc; rw [vo d hd] at hgd
      have := (ob_lt h hd hgd).1; have := (hN.ob g' hgc).1; omega
    · rfl
  · intro hm
    rcases (mem c).1 hc0 with hc | rfl
    · rw [vo c hc] at hg
      obtain ⟨k1, k2, -⟩ := ob_lt h hc hg
      rcases (mem g').1 hm with hm | hm
      · exact k2 hm
      · omega
    · rw [vf] at hg
      obtain ⟨k1, k2⟩ := hN.ob g' hg
      rcases (mem g').1 hm with hm | hm
      · have := hBl g' hm; omega
      · exact k2 hm
  · rw [hrt]; exact (A5 0 (by decide)).trans ((A1 0).trans h.c0)
  · exact (A5 1 (by decide)).trans ((A1 1).trans h.c1)
  · rw [A52, hBlen]; rfl
  · rw [f5]; exact (World.frozen?_of_block (a := ⟨A, j, none⟩) (e1 A hAl)).trans (h.fz j)
  · intro hA
    rcases (mem A).1 hA with hA | hA
    · exact h.na hA
    · omega
  · rcases (mem c).1 hc0 with hc | rfl
    · rw [vo c hc]; exact h.nr c hc
    · rw [vf]; intro e; have := (hN.ob A e).1; omega
  · rcases (mem c).1 hc0 with hc | rfl
    · rw [tB c hc]; exact h.ln c hc
    · rw [tF]; exact hp
  · refine ⟨?_, ?_, ?_, ?_, fun y hy hn => ?_⟩
    · rw [hW]; exact hN.bel.os
    · rw [hW]; exact hN.bel.tape
    · rw [hW]; exact hN.bel.output
    · have e1 : W.heap.size = w1.heap.size := by rw [hW]; simp
      have := hN.bel.size; omega
    · rw [e5 y (fun e => hn (.inr (.inr ⟨b, hb, by rw [hgo, e]⟩))) (fun e => hn (.inl e))]
      exact e1 y hy
  · rintro y (e | e | ⟨c, hc0, e⟩)
    · exact .inl (.inl e)
    · rcases (mem y).1 e with e | e
      · exact .inl (.inr (.inl e))
      · exact .inr (by omega)
    · rcases (mem c).1 hc0 with hc | rfl
      · rw [vo c hc] at e; exact .inl (.inr (.inr ⟨c, hc, e⟩))
      · rw [vf] at e; exact .inr (hN.ob y e).1
end Go.Proofs.Ytjfcdkmnccafaaa.Pb
