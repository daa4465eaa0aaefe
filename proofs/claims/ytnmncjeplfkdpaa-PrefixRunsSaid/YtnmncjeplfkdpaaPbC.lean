/- What a leaf more, a fork more leave in memory. Conditions: the tree as it lies. -/
import Derived.Test.YtnmncjeplfkdpaaPb9
import Derived.Laws.OwnMore
import Derived.Deep.RegionHeld3
import Derived.Deep.RegionWith
namespace Go.Proofs.Ytnmncjeplfkdpaa.Pb
open Go.ChangeShapes Go.WideShapes Go.ChangeAt Go.RowKit
theorem ob_lt {w : World} {A : Nat} {t : Tr} {vs : Nat → Value} {m : Nat} (h : TObj w A t vs m) {b g : Nat} (hb : b ∈ t.B) (hg : (vs b).ownBlock = some g) : g < w.heap.size ∧ g ∉ t.B ∧ g ≠ A := ⟨(h.tr.row b hb).lt hg, h.tr.rno b hb g hg, fun e => h.nr b hb (by rw [hg, e])⟩
/-- What stands while node b's row and the count turn. -/
theorem leaf_mem {w w2 w3 : World} {A : Nat} {t : Tr} {vs : Nat → Value} {m : Nat} (h : TObj w A t vs m) {b x : Nat} {K : T} {l' : List Nat} {v' : Value} (hb : b ∈ t.B) (hx : x = w.heap.size) (hK : K.length ≤ 140737488351232)
    (h2 : Below w.heap.size w w2) (hx2 : NdAt w2 x K none (.slice none 0 0)) (hs2 : x + 1 < w2.heap.size) (hI : Ins w2 w3 (vs b) v' l') (hok : Ok (t.leaf b x K l')) :
    TObj ((w3.setCell ⟨b, 3, none⟩ v').setCell ⟨A, 2, none⟩ (.int .i64 ((t.B.length : Int) + 1))) A (t.leaf b x K l') (fun c => if c = x then .slice none 0 0 else if c = b then v' else vs c) m ∧
    Fr (own A t vs) w ((w3.setCell ⟨b, 3, none⟩ v').setCell ⟨A, 2, none⟩ (.int .i64 ((t.B.length : Int) + 1))) ∧
    ∀ y, own A (t.leaf b x K l') (fun c => if c = x then .slice none 0 0 else if c = b then v' else vs c) y → own A t vs y ∨ w.heap.size ≤ y := by
  have hAl : A < w.heap.size := h.lt (.inl rfl)
  have hBl : ∀ c ∈ t.B, c < w.heap.size := fun c hc => (h.tr.nod c hc).lt
  have hbl := hBl b hb
  have hbA : b ≠ A := fun e => h.na (e ▸ hb)
  have hxB : ∀ c ∈ t.B, c ≠ x := fun c hc => by have := hBl c hc; omega
  -- what isn't b's row stands in w3
  have e3 : ∀ y, y < w2.heap.size → (vs b).ownBlock ≠ some y → w3.heap[y]? = w2.heap[y]? := fun y hy hn => hI.gr.block y hy (fun e => hn e.symm)
  have e13 : ∀ y, y < w.heap.size → (vs b).ownBlock ≠ some y → w3.heap[y]? = w.heap[y]? := fun y hy hn => (e3 y (by have := h2.size; omega) hn).trans (h2.block y hy)
  have n3 : ∀ c ∈ t.B, NdAt w3 c (t.tx c) (t.nm c) (vs c) := fun c hc => (h.tr.nod c hc).keep (e13 c (hBl c hc) (fun e => (ob_lt h hb e).2.1 hc))
  have x3 : NdAt w3 x K none (.slice none 0 0) := hx2.keep (e3 x (by omega) (fun e => by have := (ob_lt h hb e).1; omega))
  have A3 : w3.heap[A]? = w.heap[A]? := e13 A hAl (h.nr b hb)
  have d2 : w3.cell? ⟨A, 2, none⟩ = some (.int .i64 t.B.length) := (World.cell?_of_block (a := ⟨A, 2, none⟩) A3).trans h.c2
  -- what is neither b's nor the object's block stands behind the two stores
  obtain ⟨W, hW⟩ : ∃ W, W = (w3.setCell ⟨b, 3, none⟩ v').setCell ⟨A, 2, none⟩ (.int .i64 ((t.B.length : Int) + 1)) := ⟨_, rfl⟩
  have e5 : ∀ y, y ≠ b → y ≠ A → W.heap[y]? = w3.heap[y]? := fun y h1 h2 => by
    rw [hW]
    exact (Below.heap_setCell _ ⟨A, 2, none⟩ _ y h2).trans (Below.heap_setCell _ ⟨b, 3, none⟩ _ y h1)
  have b5 : NdAt W b (t.tx b) (t.nm b) v' := by rw [hW]; exact ((n3 b hb).setRow v').keep (Below.heap_setCell _ ⟨A, 2, none⟩ _ b hbA)
  have f5 : ∀ p, W.frozen? p = w3.frozen? p := fun p => by rw [hW, World.frozen?_setCell, World.frozen?_setCell]
  have A5 : ∀ j, j ≠ 2 → W.cell? ⟨A, j, none⟩ = w3.cell? ⟨A, j, none⟩ := fun j hj => by
    rw [hW, World.cell?_setCell_other _ _ _ _ (addr_ne (.inr (fun e => hj e.symm))), World.cell?_setCell_other _ _ _ _ (addr_ne (.inl hbA))]
  have A52 : W.cell? ⟨A, 2, none⟩ = some (.int .i64 ((t.B.length : Int) + 1)) := by
    rw [hW]
    exact World.cell?_setCell_same _ _ _ ((World.cell?_setCell_other _ _ _ _ (addr_ne (.inl hbA))).trans d2)
  have vob : ∀ g, v'.ownBlock = some g → ((vs b).ownBlock = some g ∨ w2.heap.size ≤ g) := fun g hg => by
    rcases hI.ob with e | ⟨g', e, hl⟩
    · exact .inl (by rw [← e]; exact hg)
    · rw [hg] at e; injection e with e; exact .inr (by omega)
  have vne : ∀ g, v'.ownBlock = some g → g ≠ b ∧ g ≠ A ∧ g ≠ x ∧ g ∉ t.B := fun g hg => by
    rcases vob g hg with e | e
    · obtain ⟨k1, k2, k3⟩ := ob_lt h hb e
      exact ⟨fun e => k2 (e ▸ hb), k3, by omega, k2⟩
    · have := h2.size
      exact ⟨by omega, by omega, by omega, fun hg => by have := hBl g hg; omega⟩
  have row5 : KsAt W v' l' := hI.row.keep fun g hg => e5 g (vne g hg).1 (vne g hg).2.1
  have mem : ∀ c, c ∈ (t.leaf b x K l').B ↔ c ∈ t.B ∨ c = x := fun c => by show c ∈ t.B ++ [x] ↔ _; simp
  have vx : (fun c => if c = x then Value.slice none 0 0 else if c = b then v' else vs c) x = .slice none 0 0 := if_pos rfl
  have vb : (fun c => if c = x then Value.slice none 0 0 else if c = b then v' else vs c) b = v' := by show (if b = x then _ else if b = b then v' else vs b) = v'; rw [if_neg (hxB b hb), if_pos rfl]
  have vo : ∀ c ∈ t.B, c ≠ b → (fun c => if c = x then Value.slice none 0 0 else if c = b then v' else vs c) c = vs c := fun c hc hcb => by show (if c = x then _ else if c = b then v' else vs c) = _; rw [if_neg (hxB c hc), if_neg hcb]
  rw [← hW]
  generalize (fun c => if c = x then Value.slice none 0 0 else if c = b then v' else vs c) = vs' at *
  have tX : (t.leaf b x K l').tx x = K := if_pos rfl
  have tB : ∀ c ∈ t.B, (t.leaf b x K l').tx c = t.tx c := fun c hc => if_neg (hxB c hc)
  have mX : (t.leaf b x K l').nm x = none := if_pos rfl
  have mB : ∀ c ∈ t.B, (t.leaf b x K l').nm c = t.nm c := fun c hc => if_neg (hxB c hc)
  have kX : (t.leaf b x K l').ks x = [] := if_pos rfl
  have kb : (t.leaf b x K l').ks b = l' := by show (if b = x then _ else if b = b then l' else _) = l'; rw [if_neg (hxB b hb), if_pos rfl]
  have kB : ∀ c ∈ t.B, c ≠ b → (t.leaf b x K l').ks c = t.ks c := fun c hc hcb => by show (if c = x then _ else if c = b then l' else _) = _; rw [if_neg (hxB c hc), if_neg hcb]
  refine ⟨⟨⟨fun c hc0 => ?_, fun c hc0 => ?_, fun c hc0 d hd0 g hgc hgd => ?_, fun c hc0 g hg => ?_⟩, hok, ?_, ?_, ?_, fun j => ?_, ?_, fun c hc0 => ?_, fun c hc0 => ?_⟩, ?_, ?_⟩
  · rcases (mem c).1 hc0 with hc | rfl
    · rw [tB c hc, mB c hc]
      by_cases hcb : c = b
      · subst hcb; rw [vb]; exact b5
      · rw [vo c hc hcb]; exact (n3 c hc).keep (e5 c hcb (fun e => h.na (e ▸ hc)))
    · rw [tX, mX, vx]
      exact x3.keep (e5 c (fun e => hxB b hb e.symm) (by omega))
  · rcases (mem c).1 hc0 with hc | rfl
    · by_cases hcb : c = b
      · subst hcb; rw [vb, kb]; exact row5
      · rw [vo c hc hcb, kB c hc hcb]
        refine (h.tr.row c hc).keep fun g hg => ?_
        obtain ⟨k1, k2, k3⟩ := ob_lt h hc hg
        exact (e5 g (fun e => k2 (e ▸ hb)) k3).trans (e13 g k1 (fun e => hcb (h.tr.rap c hc b hb g hg e)))
    · rw [vx, kX]; exact World.ownsRow_nil _ _ _ _
  · rcases (mem c).1 hc0 with hc | rfl <;> rcases (mem d).1 hd0 with hd | rfl
    · by_cases hcb : c = b <;> by_cases hdb : d = b
      · rw [hcb, hdb]
      · subst hcb
        rw [vb] at hgc; rw [vo d hd hdb] at hgd
        rcases vob g hgc with e | e
        · exact h.tr.rap c hc d hd g e hgd
        · have := (ob_lt h hd hgd).1; have := h2.size; omega
      · subst hdb
        rw [vb] at hgd; rw [vo c hc hcb] at hgc
        rcases vob g hgd with e | e
        · exact h.tr.rap c hc d hd g hgc e
        · have := (ob_lt h hc hgc).1; have := h2.size; omega
      · rw [vo c hc hcb] at hgc; rw [vo d hd hdb] at hgd
        exact h.tr.rap c hc d hd g hgc hgd
    · rw [vx] at hgd; cases hgd
    · rw [vx] at hgc; cases hgc
    · rfl
  · rcases (mem c).1 hc0 with hc | rfl
    · intro hm
      by_cases hcb : c = b
      · subst hcb
        rw [vb] at hg
        obtain ⟨-, -, k3, k4⟩ := vne g hg
        rcases (mem g).1 hm with hm | hm
        · exact k4 hm
        · exact k3 hm
      · rw [vo c hc hcb] at hg
        obtain ⟨k1, k2, -⟩ := ob_lt h hc hg
        rcases (mem g).1 hm with hm | hm
        · exact k2 hm
        · omega
    · rw [vx] at hg; cases hg
  · exact (A5 0 (by decide)).trans ((World.cell?_of_block (a := ⟨A, 0, none⟩) A3).trans h.c0)
  · exact (A5 1 (by decide)).trans ((World.cell?_of_block (a := ⟨A, 1, none⟩) A3).trans h.c1)
  · rw [A52]
    have : ((t.leaf b x K l').B.length : Int) = (t.B.length : Int) + 1 := by show ((t.B ++ [x]).length : Int) = _; simp
    rw [this]
  · rw [f5]; exact (World.frozen?_of_block (a := ⟨A, j, none⟩) A3).trans (h.fz j)
  · intro hA
    rcases (mem A).1 hA with hA | hA
    · exact h.na hA
    · omega
  · rcases (mem c).1 hc0 with hc | rfl
    · intro e
      by_cases hcb : c = b
      · subst hcb; rw [vb] at e; exact (vne A e).2.1 rfl
      · rw [vo c hc hcb] at e; exact h.nr c hc e
    · rw [vx]; intro e; cases e
  · rcases (mem c).1 hc0 with hc | rfl
    · rw [tB c hc]; exact h.ln c hc
    · rw [tX]; exact hK
  · refine ⟨?_, ?_, ?_, ?_, fun y hy hn => ?_⟩
    · rw [hW]; exact hI.gr.os.trans h2.os
    · rw [hW]; exact hI.gr.tape.trans h2.tape
    · rw [hW]; exact hI.gr.output.trans h2.output
    · have e1 : W.heap.size = w3.heap.size := by rw [hW]; simp
      have := hI.gr.size; have := h2.size; omega
    · rw [e5 y (fun e => hn (.inr (.inl (e ▸ hb)))) (fun e => hn (.inl e))]
      exact e13 y hy (fun e => hn (.inr (.inr ⟨b, hb, e⟩)))
  · rintro y (e | e | ⟨c, hc0, e⟩)
    · exact .inl (.inl e)
    · rcases (mem y).1 e with e | e
      · exact .inl (.inr (.inl e))
      · exact .inr (by omega)
    · rcases (mem c).1 hc0 with hc | rfl
      · by_cases hcb : c = b
        · subst hcb
          rw [vb] at e
          rcases vob y e with e | e
          · exact .inl (.inr (.inr ⟨c, hc, e⟩))
          · exact .inr (by have := h2.size; omega)
        · rw [vo c hc hcb] at e
          exact .inl (.inr (.inr ⟨c, hc, e⟩))
      · rw [vx] at e; cases e
/-- What stands while a fork is laid ahead of a node below b. -/
theorem fork_mem {w w1 : World} {A : Nat} {t : Tr} {vs : Nat → Value} {m : Nat} (h : TObj w A t vs m) {b f k g cap : Nat} {p : T} {v : Value} (hb : b ∈ t.B) (hk : k < (t.ks b).length) (hv : vs b = .slice (some ⟨g, 0, none⟩) (t.ks b).length cap) (hp : p.length ≤ 140737488351232)
    (hN : NewNd w w1 f p v [(t.ks b)[k]]) (hok : Ok (t.fork b (t.ks b)[k] f p ((t.ks b).set k f))) :
    TObj ((w1.setCell ⟨g, k, none⟩ (ptr f)).setCell ⟨A, 2, none⟩ (.int .i64 ((t.B.length : Int) + 1))) A (t.fork b (t.ks b)[k] f p ((t.ks b).set k f)) (fun c => if c = f then v else vs c) m ∧
    Fr (own A t vs) w ((w1.setCell ⟨g, k, none⟩ (ptr f)).setCell ⟨A, 2, none⟩ (.int .i64 ((t.B.length : Int) + 1))) ∧
    ∀ y, own A (t.fork b (t.ks b)[k] f p ((t.ks b).set k f)) (fun c => if c = f then v else vs c) y → own A t vs y ∨ w.heap.size ≤ y := by
  have hAl : A < w.heap.size := h.lt (.inl rfl)
  have hBl : ∀ c ∈ t.B, c < w.heap.size := fun c hc => (h.tr.nod c hc).lt
  have hgo : (vs b).ownBlock = some g := by rw [hv]; rfl
  obtain ⟨hgl, hgB, hgA⟩ := ob_lt h hb hgo
  have hfl := hN.lo
  have hfB : ∀ c ∈ t.B, c ≠ f := fun c hc => by have := hBl c hc; omega
  have e1 : ∀ y, y < w.heap.size → w1.heap[y]? = w.heap[y]? := fun y hy => hN.bel.block y hy
  obtain ⟨W, hW⟩ : ∃ W, W = (w1.setCell ⟨g, k, none⟩ (ptr f)).setCell ⟨A, 2, none⟩ (.int .i64 ((t.B.length : Int) + 1)) := ⟨_, rfl⟩
  have e5 : ∀ y, y ≠ g → y ≠ A → W.heap[y]? = w1.heap[y]? := fun y h1 h2 => by
    rw [hW]
    exact (Below.heap_setCell _ ⟨A, 2, none⟩ _ y h2).trans (Below.heap_setCell _ ⟨g, k, none⟩ _ y h1)
  have f5 : ∀ p, W.frozen? p = w1.frozen? p := fun p => by rw [hW, World.frozen?_setCell, World.frozen?_setCell]
  have A1 : ∀ j, w1.cell? ⟨A, j, none⟩ = w.cell? ⟨A, j, none⟩ := fun j => World.cell?_of_block (a := ⟨A, j, none⟩) (e1 A hAl)
  have A5 : ∀ j, j ≠ 2 → W.cell? ⟨A, j, none⟩ = w1.cell? ⟨A, j, none⟩ := fun j hj => by
    rw [hW, World.cell?_setCell_other _ _ _ _ (addr_ne (.inr (fun e => hj e.symm))), World.cell?_setCell_other _ _ _ _ (addr_ne (.inl hgA))]
  have A52 : W.cell? ⟨A, 2, none⟩ = some (.int .i64 ((t.B.length : Int) + 1)) := by
    rw [hW]
    exact World.cell?_setCell_same _ _ _ ((World.cell?_setCell_other _ _ _ _ (addr_ne (.inl hgA))).trans ((A1 2).trans h.c2))
  have row5 : KsAt W (vs b) ((t.ks b).set k f) := by
    have h1 : KsAt w1 (vs b) (t.ks b) := (h.tr.row b hb).keep fun g' hg' => e1 g' ((h.tr.row b hb).lt hg')
    rw [hv] at h1 ⊢
    have h2 := (World.ownsRow.stored h1 k (ptr f)).1
    have h3 : KsAt (w1.setCell ⟨g, k, none⟩ (ptr f)) (.slice (some ⟨g, 0, none⟩) (t.ks b).length cap) ((t.ks b).set k f) := by
      unfold KsAt
      rw [List.length_set, List.map_set]
      exact h2
    refine h3.keep fun g' hg' => ?_
    have : g = g' := by
      have h : some g = some g' := hg'
      injection h
    rw [hW]
    exact Below.heap_setCell _ ⟨A, 2, none⟩ _ g' (by rw [← this]; exact hgA)
  have n5 : ∀ c ∈ t.B, NdAt W c (t.tx c) (t.nm c) (vs c) := fun c hc => ((h.tr.nod c hc).keep (e1 c (hBl c hc))).keep (e5 c (fun e => hgB (e ▸ hc)) (fun e => h.na (e ▸ hc)))
  have F5 : NdAt W f p none v := hN.nod.keep (e5 f (by omega) (by omega))
  have vr5 : KsAt W v [(t.ks b)[k]] := hN.row.keep fun g' hg' => e5 g' (by have := (hN.ob g' hg').1; omega) (by have := (hN.ob g' hg').1; omega)
  have mem : ∀ c, c ∈ (t.fork b (t.ks b)[k] f p ((t.ks b).set k f)).B ↔ c ∈ t.B ∨ c = f := fun c => by show c ∈ t.B ++ [f] ↔ _; simp
  have vf : (fun c => if c = f then v else vs c) f = v := if_pos rfl
  have vo : ∀ c ∈ t.B, (fun c => if c = f then v else vs c) c = vs c := fun c hc => if_neg (hfB c hc)
  rw [← hW]
  generalize (fun c => if c = f then v else vs c) = vs' at *
  have tF : (t.fork b (t.ks b)[k] f p ((t.ks b).set k f)).tx f = p := if_pos rfl
  have tB : ∀ c ∈ t.B, (t.fork b (t.ks b)[k] f p ((t.ks b).set k f)).tx c = t.tx c := fun c hc => if_neg (hfB c hc)
  have mF : (t.fork b (t.ks b)[k] f p ((t.ks b).set k f)).nm f = none := if_pos rfl
  have mB : ∀ c ∈ t.B, (t.fork b (t.ks b)[k] f p ((t.ks b).set k f)).nm c = t.nm c := fun c hc => if_neg (hfB c hc)
  have kF : (t.fork b (t.ks b)[k] f p ((t.ks b).set k f)).ks f = [(t.ks b)[k]] := if_pos rfl
  have kb : (t.fork b (t.ks b)[k] f p ((t.ks b).set k f)).ks b = (t.ks b).set k f := by show (if b = f then _ else if b = b then (t.ks b).set k f else _) = _; rw [if_neg (hfB b hb), if_pos rfl]
  have kB : ∀ c ∈ t.B, c ≠ b → (t.fork b (t.ks b)[k] f p ((t.ks b).set k f)).ks c = t.ks c := fun c hc hcb => by show (if c = f then _ else if c = b then (t.ks b).set k f else _) = _; rw [if_neg (hfB c hc), if_neg hcb]
  have hBlen : (t.fork b (t.ks b)[k] f p ((t.ks b).set k f)).B.length = t.B.length + 1 := by show (t.B ++ [f]).length = _; simp
  have hrt : (t.fork b (t.ks b)[k] f p ((t.ks b).set k f)).rt = t.rt := rfl
  generalize t.fork b (t.ks b)[k] f p ((t.ks b).set k f) = t' at *
  refine ⟨⟨⟨fun c hc0 => ?_, fun c hc0 => ?_, fun c hc0 d hd0 g' hgc hgd => ?_, fun c hc0 g' hg => ?_⟩, hok, ?_, ?_, ?_, fun j => ?_, ?_, fun c hc0 => ?_, fun c hc0 => ?_⟩, ?_, ?_⟩
  · rcases (mem c).1 hc0 with hc | rfl
    · rw [tB c hc, mB c hc, vo c hc]; exact n5 c hc
    · rw [tF, mF, vf]; exact F5
  · rcases (mem c).1 hc0 with hc | rfl
    · rw [vo c hc]
      by_cases hcb : c = b
      · subst hcb; rw [kb]; exact row5
      · rw [kB c hc hcb]
        refine (h.tr.row c hc).keep fun g' hg' => ?_
        obtain ⟨k1, k2, k3⟩ := ob_lt h hc hg'
        exact (e5 g' (fun e => hcb (h.tr.rap c hc b hb g' hg' (by rw [e]; exact hgo))) k3).trans (e1 g' k1)
    · rw [vf, kF]; exact vr5
  · rcases (mem c).1 hc0 with hc | rfl <;> rcases (mem d).1 hd0 with hd | rfl
    · rw [vo c hc] at hgc; rw [vo d hd] at hgd; exact h.tr.rap c hc d hd g' hgc hgd
    · rw [vo c hc] at hgc; rw [vf] at hgd
      have := (ob_lt h hc hgc).1; have := (hN.ob g' hgd).1; omega
    · rw [vf] at hgc; rw [vo d hd] at hgd
      have := (ob_lt h hd hgd).1; have := (hN.ob g' hgc).1; omega
    · rfl
  · intro hm
    rcases (mem c).1 hc0 with hc | rfl
    · rw [vo c hc] at hg
      obtain ⟨k1, k2, -⟩ := ob_lt h hc hg
      rcases (mem g').1 hm with hm | hm
      · exact k2 hm
      · omega
    · rw [vf] at hg
      obtain ⟨k1, k2⟩ := hN.ob g' hg
      rcases (mem g').1 hm with hm | hm
      · have := hBl g' hm; omega
      · exact k2 hm
  · rw [hrt]; exact (A5 0 (by decide)).trans ((A1 0).trans h.c0)
  · exact (A5 1 (by decide)).trans ((A1 1).trans h.c1)
  · rw [A52, hBlen]; rfl
  · rw [f5]; exact (World.frozen?_of_block (a := ⟨A, j, none⟩) (e1 A hAl)).trans (h.fz j)
  · intro hA
    rcases (mem A).1 hA with hA | hA
    · exact h.na hA
    · omega
  · rcases (mem c).1 hc0 with hc | rfl
    · rw [vo c hc]; exact h.nr c hc
    · rw [vf]; intro e; have := (hN.ob A e).1; omega
  · rcases (mem c).1 hc0 with hc | rfl
    · rw [tB c hc]; exact h.ln c hc
    · rw [tF]; exact hp
  · refine ⟨?_, ?_, ?_, ?_, fun y hy hn => ?_⟩
    · rw [hW]; exact hN.bel.os
    · rw [hW]; exact hN.bel.tape
    · rw [hW]; exact hN.bel.output
    · have e1 : W.heap.size = w1.heap.size := by rw [hW]; simp
      have := hN.bel.size; omega
    · rw [e5 y (fun e => hn (.inr (.inr ⟨b, hb, by rw [hgo, e]⟩))) (fun e => hn (.inl e))]
      exact e1 y hy
  · rintro y (e | e | ⟨c, hc0, e⟩)
    · exact .inl (.inl e)
    · rcases (mem y).1 e with e | e
      · exact .inl (.inr (.inl e))
      · exact .inr (by omega)
    · rcases (mem c).1 hc0 with hc | rfl
      · rw [vo c hc] at e; exact .inl (.inr (.inr ⟨c, hc, e⟩))
      · rw [vf] at e; exact .inr (hN.ob y e).1
end Go.Proofs.Ytnmncjeplfkdpaa.Pb
/- place: a key's node, which is there from now on. Conditions: the tree as it lies; bounds. -/
namespace Go.Proofs.Ytnmncjeplfkdpaa.Pb
open Go.ChangeShapes Go.WideShapes Go.ChangeAt Go.RowKit
/-- The same nodes with the same numbers, and others without. -/
structure St (t0 t : Tr) : Prop where
  rt : t.rt = t0.rt
  sub : ∀ b ∈ t0.B, b ∈ t.B ∧ t.tx b = t0.tx b ∧ t.nm b = t0.nm b
  new : ∀ b ∈ t.B, b ∉ t0.B → t.nm b = none
theorem St.refl (t : Tr) : St t t := ⟨rfl, fun _ hb => ⟨hb, rfl, rfl⟩, fun _ hb hn => absurd hb hn⟩
theorem St.leaf {t0 t : Tr} (h : St t0 t) {b x : Nat} {K : T} {l : List Nat} (hx : x ∉ t.B) : St t0 (t.leaf b x K l) := by
  refine ⟨h.rt, fun c hc => ?_, fun c hc hn => ?_⟩
  · obtain ⟨i, e1, e2⟩ := h.sub c hc
    have hcx : c ≠ x := fun e => hx (e ▸ i)
    exact ⟨List.mem_append.2 (.inl i), (if_neg hcx).trans e1, (if_neg hcx).trans e2⟩
  · show (if c = x then none else t.nm c) = none
    by_cases hcx : c = x
    · rw [if_pos hcx]
    · rw [if_neg hcx]
      rcases List.mem_append.1 hc with hc | hc
      · exact h.new c hc hn
      · exact absurd (List.mem_singleton.1 hc) hcx
theorem St.fork {t0 t : Tr} (h : St t0 t) {b c f : Nat} {p : T} {l : List Nat} (hx : f ∉ t.B) : St t0 (t.fork b c f p l) := by
  refine ⟨h.rt, fun d hd => ?_, fun d hd hn => ?_⟩
  · obtain ⟨i, e1, e2⟩ := h.sub d hd
    have hdf : d ≠ f := fun e => hx (e ▸ i)
    exact ⟨List.mem_append.2 (.inl i), (if_neg hdf).trans e1, (if_neg hdf).trans e2⟩
  · show (if d = f then none else t.nm d) = none
    by_cases hdf : d = f
    · rw [if_pos hdf]
    · rw [if_neg hdf]
      rcases List.mem_append.1 hd with hd | hd
      · exact h.new d hd hn
      · exact absurd (List.mem_singleton.1 hd) hdf
/-- How far the way has come: no fork yet, or the node is a fork of which none below goes on as the key does. -/
def Pl (N : Nat) (t : Tr) (K : T) (b : Nat) : Prop :=
  (Mn t none ∧ t.B.length = N) ∨ (Mn t (some b) ∧ t.ks b ≠ [] ∧ t.B.length = N + 1 ∧ ∀ c ∈ t.ks b, ∀ y, t.tx b ++ [y] <+: K → ¬ t.tx b ++ [y] <+: t.tx c)
theorem Pl.mn {N : Nat} {t : Tr} {K : T} {b : Nat} (h : Pl N t K b) : Mn t (some b) ∧ t.B.length ≤ N + 1 := by
  rcases h with ⟨h, e⟩ | ⟨h, -, e, -⟩
  · exact ⟨fun c hc hr _ => h c hc hr (by simp), by omega⟩
  · exact ⟨h, by omega⟩
/-- Behind a leaf that was put. -/
theorem Pl.leaf {N : Nat} {t : Tr} {K : T} {b x : Nat} (h : Pl N t K b) (k : Nat) (K' : T) : Mn (t.leaf b x K' ((t.ks b).take k ++ x :: (t.ks b).drop k)) (some x) ∧ (t.leaf b x K' ((t.ks b).take k ++ x :: (t.ks b).drop k)).B.length ≤ N + 2 := by
  have hll : ((t.ks b).take k ++ x :: (t.ks b).drop k).length = (t.ks b).length + 1 := by
    rw [List.length_append, List.length_cons, List.length_take, List.length_drop]; omega
  refine ⟨fun c hc hr he => ?_, ?_⟩
  · have hcx : c ≠ x := fun e => he (by rw [e])
    have hcB : c ∈ t.B := by
      rcases List.mem_append.1 hc with hc | hc
      · exact hc
      · exact absurd (List.mem_singleton.1 hc) hcx
    show (if c = x then none else t.nm c) ≠ none ∨ 2 ≤ (if c = x then [] else if c = b then _ else t.ks c).length
    rw [if_neg hcx, if_neg hcx]
    by_cases hcb : c = b
    · subst hcb
      rw [if_pos rfl, hll]
      rcases h with ⟨h, -⟩ | ⟨-, h, -⟩
      · rcases h c hcB hr (by simp) with h | h
        · exact .inl h
        · exact .inr (by omega)
      · have := List.length_pos_iff.2 h
        exact .inr (by omega)
    · rw [if_neg hcb]
      exact (h.mn.1) c hcB hr (fun e => hcb (by injection e))
  · show (t.B ++ [x]).length ≤ _
    rw [List.length_append]
    have := h.mn.2
    show _ + 1 ≤ _
    omega
/-- Behind a fork that was laid. -/
theorem Pl.fork {N : Nat} {t : Tr} {K : T} {b f k : Nat} (h : Mn t none) (hN : t.B.length = N) (ho : Ok t) (hb : b ∈ t.B) (hf : f ∉ t.B) (hk : k < (t.ks b).length)  :
    Pl N (t.fork b (t.ks b)[k] f (lcp (t.tx (t.ks b)[k]) K) ((t.ks b).set k f)) K f := by
  have hcB := (ho.kin b hb _ (List.getElem_mem hk)).1
  have hcf : (t.ks b)[k] ≠ f := fun e => hf (e ▸ hcB)
  refine .inr ⟨fun c hc hr he => ?_, ?_, ?_, fun c hc y h1 h2 => ?_⟩
  · have hcx : c ≠ f := fun e => he (by rw [e])
    have hcB : c ∈ t.B := by
      rcases List.mem_append.1 hc with hc | hc
      · exact hc
      · exact absurd (List.mem_singleton.1 hc) hcx
    show (if c = f then none else t.nm c) ≠ none ∨ 2 ≤ (if c = f then _ else if c = b then _ else t.ks c).length
    rw [if_neg hcx, if_neg hcx]
    rcases h c hcB hr (by simp) with h | h
    · exact .inl h
    · refine .inr ?_
      by_cases hcb : c = b
      · subst hcb; rw [if_pos rfl, List.length_set]; exact h
      · rw [if_neg hcb]; exact h
  · show (if f = f then [_] else _) ≠ []
    rw [if_pos rfl]; simp
  · show (t.B ++ [f]).length = _
    rw [List.length_append, hN]; rfl
  · have hc : c = (t.ks b)[k] := by
      have : c ∈ (if f = f then [(t.ks b)[k]] else if f = b then (t.ks b).set k f else t.ks f) := hc
      rw [if_pos rfl] at this
      exact List.mem_singleton.1 this
    subst hc
    have tF : (t.fork b (t.ks b)[k] f (lcp (t.tx (t.ks b)[k]) K) ((t.ks b).set k f)).tx f = lcp (t.tx (t.ks b)[k]) K := if_pos rfl
    have tc : (t.fork b (t.ks b)[k] f (lcp (t.tx (t.ks b)[k]) K) ((t.ks b).set k f)).tx (t.ks b)[k] = t.tx (t.ks b)[k] := if_neg hcf
    rw [tF] at h1 h2
    rw [tc] at h2
    have h3 := (lcp_max h2 h1).length_le
    rw [List.length_append] at h3
    have : [y].length = 1 := rfl
    omega
theorem ext_len {p q : T} {y : UInt8} (h : p ++ [y] <+: q) : p.length < q.length := by
  have h1 := h.length_le
  rw [List.length_append] at h1
  have h2 : [y].length = 1 := rfl
  omega
/-- What place has in hand at a node of the way. -/
structure PR (w : World) (A : Nat) (t0 : Tr) (vs0 : Nat → Value) (m : Nat) (K : T) (wr : World) (b : Nat) (t : Tr) (vs : Nat → Value) : Prop where
  obj : TObj wr A t vs m
  bin : b ∈ t.B
  pre : t.tx b <+: K
  st : St t0 t
  pl : Pl t0.B.length t K b
  fr : Fr (own A t0 vs0) w wr
  ow : ∀ y, own A t vs y → own A t0 vs0 y ∨ w.heap.size ≤ y
theorem PR.below {w wr w' : World} {A m b : Nat} {t0 t : Tr} {vs0 vs : Nat → Value} {K : T} (h : PR w A t0 vs0 m K wr b t vs) (hb : Below wr.heap.size wr w') : PR w A t0 vs0 m K w' b t vs :=
  ⟨h.obj.below hb, h.bin, h.pre, h.st, h.pl, h.fr.trans2 (Fr.of_below (S := fun _ => False) hb) (fun _ _ h => h.elim), h.ow⟩
/-- Another world, other nodes. -/
theorem PR.go {w wr w' : World} {A m b b' : Nat} {t0 t t' : Tr} {vs0 vs vs' : Nat → Value} {K : T} (h : PR w A t0 vs0 m K wr b t vs) (ho : TObj w' A t' vs' m) (hF : Fr (own A t vs) wr w') (hO : ∀ y, own A t' vs' y → own A t vs y ∨ wr.heap.size ≤ y)
    (hb : b' ∈ t'.B) (hp : t'.tx b' <+: K) (hs : St t0 t') (hpl : Pl t0.B.length t' K b') : PR w A t0 vs0 m K w' b' t' vs' :=
  ⟨ho, hb, hp, hs, hpl, h.fr.trans2 hF (fun i hi hh => by
    rcases h.ow i hh with e | e
    · exact e
    · omega), fun y hy => by
    rcases hO y hy with e | e
    · exact h.ow y e
    · exact .inr (by have := h.fr.size; omega)⟩
/-- A leaf that is laid, and its pointer in a box. -/
theorem newLeaf (w : World) (key : ByteArray) : Below w.heap.size w ((w.alloc (.cells #[.string key, .bool false, .int .i64 0, .slice none 0 0] 74)).alloc (.cells #[ptr w.heap.size] 71)) ∧
    NdAt ((w.alloc (.cells #[.string key, .bool false, .int .i64 0, .slice none 0 0] 74)).alloc (.cells #[ptr w.heap.size] 71)) w.heap.size key.data.toList none (.slice none 0 0) ∧
    ((w.alloc (.cells #[.string key, .bool false, .int .i64 0, .slice none 0 0] 74)).alloc (.cells #[ptr w.heap.size] 71)).heap[w.heap.size + 1]? = some (.cells #[ptr w.heap.size] 71 (0, 0)) ∧
    w.heap.size + 1 < ((w.alloc (.cells #[.string key, .bool false, .int .i64 0, .slice none 0 0] 74)).alloc (.cells #[ptr w.heap.size] 71)).heap.size := by
  have s1 : (w.alloc (.cells #[.string key, .bool false, .int .i64 0, .slice none 0 0] 74)).heap.size = w.heap.size + 1 := by simp
  have c1 := fun j => World.cell?_alloc_new w #[.string key, .bool false, .int .i64 0, .slice none 0 0] 74 j
  have f1 : ∀ j, (w.alloc (.cells #[.string key, .bool false, .int .i64 0, .slice none 0 0] 74)).frozen? ⟨w.heap.size, j, none⟩ = false := fun j => by simp
  have B1 := bbox (w := w) (.cells #[.string key, .bool false, .int .i64 0, .slice none 0 0] 74)
  generalize w.alloc (.cells #[.string key, .bool false, .int .i64 0, .slice none 0 0] 74) = W1 at *
  have g2 : (W1.alloc (.cells #[ptr w.heap.size] 71)).heap[W1.heap.size]? = some (.cells #[ptr w.heap.size] 71 (0, 0)) := (MapKept.heap_alloc W1 _).1
  have s2 : (W1.alloc (.cells #[ptr w.heap.size] 71)).heap.size = W1.heap.size + 1 := by simp
  have B2 := bbox (w := W1) (.cells #[ptr w.heap.size] 71)
  rw [s1] at g2
  refine ⟨bstep B1 B2, ?_, g2, by omega⟩
  have hn : NdAt W1 w.heap.size key.data.toList none (.slice none 0 0) := ⟨by rw [bs_data]; exact c1 0, c1 1, c1 2, c1 3, f1⟩
  exact hn.keep (B2.block _ (by omega))
theorem ins_at {l : List Nat} {k x : Nat} (hk : k ≤ l.length) : ∃ h : k < (l.take k ++ x :: l.drop k).length, (l.take k ++ x :: l.drop k)[k]'h = x := by
  have hl : (l.take k).length = k := by rw [List.length_take]; omega
  have h : k < (l.take k ++ x :: l.drop k).length := by rw [List.length_append, hl, List.length_cons]; omega
  refine ⟨h, ?_⟩
  rw [List.getElem_append_right (by omega)]
  simp [hl]
theorem leaf_row {W : World} {A : Nat} {t : Tr} {vs : Nat → Value} {m b x : Nat} {K : T} {l' : List Nat} {v' : Value} (hb : b ∈ t.B) (hbx : b ≠ x) (h : TObj W A (t.leaf b x K l') (fun c => if c = x then .slice none 0 0 else if c = b then v' else vs c) m) : KsAt W v' l' ∧ W.cell? ⟨b, 3, none⟩ = some v' := by
  have hm : b ∈ (t.leaf b x K l').B := List.mem_append.2 (.inl hb)
  have h1 := h.tr.row b hm
  have h2 := (h.tr.nod b hm).c3
  have kb : (t.leaf b x K l').ks b = l' := by show (if b = x then _ else if b = b then l' else _) = l'; rw [if_neg hbx, if_pos rfl]
  have vb : (if b = x then Value.slice none 0 0 else if b = b then v' else vs b) = v' := by rw [if_neg hbx, if_pos rfl]
  rw [kb] at h1
  have h1' : KsAt W (if b = x then Value.slice none 0 0 else if b = b then v' else vs b) l' := h1
  have h2' : W.cell? ⟨b, 3, none⟩ = some (if b = x then Value.slice none 0 0 else if b = b then v' else vs b) := h2
  rw [vb] at h1' h2'
  exact ⟨h1', h2'⟩
/-- What stands behind a fork. -/
theorem PR.fork {w wr w1 : World} {A m b k g cap f c : Nat} {t0 t : Tr} {vs0 vs : Nat → Value} {K : T} {v : Value} {y : UInt8} (h : PR w A t0 vs0 m K wr b t vs) (hk : k < (t.ks b).length) (hc : (t.ks b)[k] = c) (hv : vs b = .slice (some ⟨g, 0, none⟩) (t.ks b).length cap)
    (hyK : t.tx b ++ [y] <+: K) (hyc : t.tx b ++ [y] <+: t.tx c) (hlt : (lcp (t.tx c) K).length < (t.tx c).length) (hN : NewNd wr w1 f (lcp (t.tx c) K) v [c]) :
    (w1.cell? ⟨b, 3, none⟩ = some (.slice (some ⟨g, 0, none⟩) (t.ks b).length cap) ∧ w1.frozen? ⟨g, k, none⟩ = false ∧ w1.cell? ⟨g, k, none⟩ = some (ptr c)) ∧
    ((w1.setCell ⟨g, k, none⟩ (ptr f)).cell? ⟨A, 2, none⟩ = some (.int .i64 t.B.length) ∧ (w1.setCell ⟨g, k, none⟩ (ptr f)).frozen? ⟨A, 2, none⟩ = false) ∧
    ∃ t' vs', PR w A t0 vs0 m K ((w1.setCell ⟨g, k, none⟩ (ptr f)).setCell ⟨A, 2, none⟩ (.int .i64 ((t.B.length : Int) + 1))) f t' vs' ∧ (t.tx b).length < (t'.tx f).length ∧
      ((w1.setCell ⟨g, k, none⟩ (ptr f)).setCell ⟨A, 2, none⟩ (.int .i64 ((t.B.length : Int) + 1))).cell? ⟨b, 3, none⟩ = some (.slice (some ⟨g, 0, none⟩) (t.ks b).length cap) ∧
      ((w1.setCell ⟨g, k, none⟩ (ptr f)).setCell ⟨A, 2, none⟩ (.int .i64 ((t.B.length : Int) + 1))).cell? ⟨g, k, none⟩ = some (ptr f) := by
  subst hc
  have hob := h.obj
  have hcm := hob.ok.kin b h.bin _ (List.getElem_mem hk)
  have hfB : f ∉ t.B := fun e => by have := (hob.tr.nod _ e).lt; have := hN.lo; omega
  have hbf : b ≠ f := fun e => hfB (e ▸ h.bin)
  have hpl : Mn t none ∧ t.B.length = t0.B.length := by
    rcases h.pl with h1 | ⟨-, -, -, h1⟩
    · exact h1
    · exact absurd hyc (h1 _ (List.getElem_mem hk) y hyK)
  have hmx := lcp_max hyc hyK
  have hok := hob.ok.fork h.bin hfB (List.getElem_mem hk) hmx (lcp_left _ _) (fun e => by rw [e] at hlt; omega) (map_set (hob.ok.knd h.bin) hk).symm
  obtain ⟨T5, F5, O5⟩ := fork_mem hob h.bin hk hv (Nat.le_trans (lcp_left _ _).length_le (hob.ln _ hcm.1)) hN hok
  have hgo : (vs b).ownBlock = some g := by rw [hv]; rfl
  obtain ⟨hgl, hgB, hgA⟩ := ob_lt hob h.bin hgo
  have row1 : KsAt w1 (vs b) (t.ks b) := (hob.tr.row b h.bin).keep fun g' hg' => hN.bel.block g' ((hob.tr.row b h.bin).lt hg')
  have n1 := (hob.tr.nod b h.bin).keep (hN.bel.block b (hob.tr.nod b h.bin).lt)
  have n13 := n1.c3
  rw [hv] at row1 n13
  have hfz := row1.frozenAt k
  obtain ⟨a', cp', e1, -, -, hcs⟩ := row1.slice
  injection e1 with e1 _ e2
  obtain ⟨g', rfl, -, er⟩ := hcs k hk
  injection e1 with e1
  injection e1 with e1
  subst e1
  have A1 : w1.heap[A]? = wr.heap[A]? := hN.bel.block A (hob.lt (.inl rfl))
  have a2 : (w1.setCell ⟨g, k, none⟩ (ptr f)).cell? ⟨A, 2, none⟩ = some (.int .i64 t.B.length) := (World.cell?_setCell_other _ _ _ _ (addr_ne (.inl hgA))).trans ((World.cell?_of_block (a := ⟨A, 2, none⟩) A1).trans hob.c2)
  have z3 := (T5.tr.nod b (List.mem_append.2 (.inl h.bin))).c3
  have z3' : ((w1.setCell ⟨g, k, none⟩ (ptr f)).setCell ⟨A, 2, none⟩ (.int .i64 ((t.B.length : Int) + 1))).cell? ⟨b, 3, none⟩ = some (if b = f then v else vs b) := z3
  rw [if_neg hbf, hv] at z3'
  have hF : (t.fork b (t.ks b)[k] f (lcp (t.tx (t.ks b)[k]) K) ((t.ks b).set k f)).tx f = lcp (t.tx (t.ks b)[k]) K := if_pos rfl
  refine ⟨⟨n13, hfz, er⟩, ⟨a2, ?_⟩, _, _, h.go T5 F5 O5 (List.mem_append.2 (.inr (List.mem_singleton.2 rfl))) (by rw [hF]; exact lcp_right _ _) (h.st.fork hfB) (Pl.fork hpl.1 hpl.2 hob.ok h.bin hfB hk), ?_, z3', ?_⟩
  · rw [World.frozen?_setCell]; exact (World.frozen?_of_block (a := ⟨A, 2, none⟩) A1).trans (hob.fz 2)
  · rw [hF]
    have := hmx.length_le
    rw [List.length_append] at this
    have h1 : [y].length = 1 := rfl
    omega
  · exact (World.cell?_setCell_other _ _ _ _ (addr_ne (.inl (fun e => hgA e.symm)))).trans (World.cell?_setCell_same _ _ _ er)
set_option maxHeartbeats 8000000 in
set_option maxRecDepth 100000 in
theorem place_calls {w : World} {A : Nat} {t0 : Tr} {vs0 : Nat → Value} {m : Nat} (h : TObj w A t0 vs0 m) (key : ByteArray) (hm0 : Mn t0 none) (hK : key.size ≤ 140737488351232) (hN : t0.B.length ≤ 1000000) :
    Calls Try.prog 50 #[.pointer (some ⟨A, 0, none⟩), .string key] w fun e w' => ∃ b, e = .returned (.pointer (some ⟨b, 0, none⟩)) ∧ ∃ t vs, TObj w' A t vs m ∧ b ∈ t.B ∧ t.tx b = key.data.toList ∧ St t0 t ∧ Mn t (some b) ∧ t.B.length ≤ t0.B.length + 2 ∧ Fr (own A t0 vs0) w w' ∧ ∀ y, own A t vs y → own A t0 vs0 y ∨ w.heap.size ≤ y := by
  have c0 := h.c0
  have H0 : Hid (PR w A t0 vs0 m key.data.toList w t0.rt t0 vs0) := Lib.hid ⟨h, h.ok.rin, by rw [h.ok.rtx]; exact List.nil_prefix, St.refl _, .inl ⟨hm0, rfl⟩, ⟨rfl, rfl, rfl, Nat.le_refl _, fun _ _ _ => rfl⟩, fun _ hy => .inl hy⟩
  clear h hm0
  have hKl := dlen key
  have HKl := Lib.hid hKl
  clear hKl
  go_enter Try.func50, Try.ntmps50
  go_wp2_with fail
  clear c0
  go_loopg [5, 6, 7, 8] (key.size + 1) (fun g vb _ _ _ wr => ∃ (b : Nat) (t : Tr) (vs : Nat → Value), vb = .pointer (some ⟨b, 0, none⟩) ∧ Hid (key.size - (t.tx b).length < g) ∧ Hid (PR w A t0 vs0 m key.data.toList wr b t vs))
  case atStart => exact ⟨t0.rt, t0, vs0, rfl, Lib.hid (by omega), H0⟩
  case round =>
    obtain ⟨b, t, vs, rfl, HG, HP⟩ := hrel
    clear H0
    have hn := HP.out.obj.tr.nod b HP.out.bin
    have b0 := hn.c0
    by_cases hlt : (t.tx b).length < key.size
    case neg =>
      have hbc : ¬ ((bs (t.tx b)).size : Int) < (key.size : Int) := by rw [bs_size]; omega
      have HE : Hid (t.tx b = key.data.toList) := Lib.hid (HP.out.pre.eq_of_length (by have := HP.out.pre.length_le; have := HKl.out; omega))
      clear hn
      generalize bs (t.tx b) = P at *
      go_wp2_with fail
      go_ret
      have hp := HP.out
      exact ⟨b, rfl, t, vs, hp.obj, hp.bin, HE.out, hp.st, hp.pl.mn.1, by have := hp.pl.mn.2; omega, hp.fr, hp.ow⟩
    case pos =>
      have hbc : ((bs (t.tx b)).size : Int) < (key.size : Int) := by rw [bs_size]; omega
      obtain ⟨y, hy⟩ := ext_of HP.out.pre (fun e => by rw [e] at hlt; have := HKl.out; omega)
      obtain ⟨k, th, hF⟩ := fnd_ex _ (HP.out.obj.ok.nbs HP.out.bin) y.toNat
      have hps : (bs (t.tx b)).size = (t.tx b).length := bs_size _
      have hxk : (bs (t.tx b)).size < key.size := by omega
      have hyk : (key[(bs (t.tx b)).size]'hxk) = y := by
        rw [← dget key _ (by rw [dlen]; exact hxk)]
        obtain ⟨r, hr⟩ := hy
        have : key.data.toList[(bs (t.tx b)).size]? = some y := by rw [← hr, hps]; simp
        rw [List.getElem?_eq_getElem (by rw [dlen]; exact hxk)] at this
        exact Option.some.inj this
      have hkle := HP.out.obj.ok.kle HP.out.bin
      have HFc := Lib.hid (find_calls HP.out.obj.tr HP.out.obj.ok HP.out.bin y.toNat k th hF (by omega))
      rw [← hyk] at HFc
      have hBn : t.B.length ≤ 1000001 := by have := HP.out.pl.mn.2; omega
      have hkl0 := hF.le
      rw [List.length_map] at hkl0
      have HFk := Lib.hid (hF.kid HP.out.obj.ok HP.out.bin)
      have HFF := Lib.hid hF
      have HY := Lib.hid hy
      have HB0 := Lib.hid (fun w2 (hb2 : Below wr.heap.size wr w2) => (hb2.cell (p := ⟨b, 0, none⟩) hn.lt).trans b0)
      have HTX : Hid ((bs (t.tx b)).size = (t.tx b).length) := Lib.hid hps
      clear hn hF hy hyk hps
      cases th with
      | false =>
        go_wp2_with fail
        refine HFc.out.mono ?_; rintro en w2 ⟨rfl, hb2⟩
        have HP2 := Lib.hid (HP.out.below hb2)
        clear hb2 HFc HP b0 HB0
        have hob := HP2.out.obj
        have hxB : w2.heap.size ∉ t.B := fun e => by have := (hob.tr.nod _ e).lt; omega
        obtain ⟨N1, N2, N3, N4⟩ := newLeaf w2 key
        have hk2 := hob.ok.leaf_at HP2.out.bin hxB HY.out HFF.out
        have hrow2 : KsAt ((w2.alloc (.cells #[.string key, .bool false, .int .i64 0, .slice none 0 0] 74)).alloc (.cells #[ptr w2.heap.size] 71)) (vs b) (t.ks b) := (hob.tr.row b HP2.out.bin).keep fun g hg => N1.block g (ob_lt hob HP2.out.bin hg).1
        have HI := Lib.hid (insert_calls hrow2 (by omega) hkl0 w2.heap.size (w2.heap.size + 1) N3 (fun e => by have := (ob_lt hob HP2.out.bin e).1; omega))
        have e3 := (hob.tr.nod b HP2.out.bin).c3
        have HL := Lib.hid (fun w3 v' (hi : Ins _ w3 (vs b) v' _) => leaf_mem hob HP2.out.bin rfl (by have := HKl.out; omega) N1 N2 N4 hi hk2)
        have HW3 := Lib.hid (fun w3 v' (hi : Ins _ w3 (vs b) v' ((t.ks b).take k ++ w2.heap.size :: (t.ks b).drop k)) => by
          have hbA : b ≠ A := fun e => hob.na (e ▸ HP2.out.bin)
          have s3 : ∀ y, y < w2.heap.size → (vs b).ownBlock ≠ some y → w3.heap[y]? = w2.heap[y]? := fun y hy hn => (hi.gr.block y (by have := N1.size; omega) (fun e => hn e.symm)).trans (N1.block y hy)
          have hbl := (hob.tr.nod b HP2.out.bin).lt
          have sb := s3 b hbl (fun e => (ob_lt hob HP2.out.bin e).2.1 HP2.out.bin)
          have sA := s3 A (hob.lt (.inl rfl)) (hob.nr b HP2.out.bin)
          exact (⟨((hob.tr.nod b HP2.out.bin).keep sb).c3, ((hob.tr.nod b HP2.out.bin).keep sb).fz 3, (World.cell?_setCell_other _ _ _ _ (addr_ne (.inl hbA))).trans ((World.cell?_of_block (a := ⟨A, 2, none⟩) sA).trans hob.c2), by rw [World.frozen?_setCell]; exact (World.frozen?_of_block (a := ⟨A, 2, none⟩) sA).trans (hob.fz 2)⟩ :
            w3.cell? ⟨b, 3, none⟩ = some (vs b) ∧ w3.frozen? ⟨b, 3, none⟩ = false ∧ (w3.setCell ⟨b, 3, none⟩ v').cell? ⟨A, 2, none⟩ = some (.int .i64 t.B.length) ∧ (w3.setCell ⟨b, 3, none⟩ v').frozen? ⟨A, 2, none⟩ = false))
        clear hob N1 N2 N3 N4 hrow2
        simp only [ptr] at HI HL HW3
        generalize hv : vs b = v at *
        have HV := Lib.hid hv
        clear hv
        go_wp2_with fail
        refine HI.out.mono ?_; rintro en w3 ⟨v', rfl, hIns⟩
        obtain ⟨T5, F5, O5⟩ := HL.out w3 v' hIns
        obtain ⟨d3, f3, dA, fA⟩ := HW3.out w3 v' hIns
        obtain ⟨hrow, e3⟩ := leaf_row (x := w2.heap.size) HP2.out.bin (fun e => hxB (by rw [← e]; exact HP2.out.bin)) T5
        obtain ⟨hkl, hke⟩ := ins_at (x := w2.heap.size) hkl0
        obtain ⟨a', cp', rfl, -, -, hcs⟩ := hrow.slice
        obtain ⟨g', rfl, -, er⟩ := hcs k hkl
        rw [hke] at er
        simp only [ptr] at er
        have HT5 := Lib.hid T5
        have HF5 := Lib.hid F5
        have HO5 := Lib.hid O5
        clear T5 F5 O5 HL HI HW3 hIns hrow hcs hke
        have hkc : (k : Int) < (((t.ks b).take k ++ w2.heap.size :: (t.ks b).drop k).length : Int) := by omega
        generalize hn' : ((t.ks b).take k ++ w2.heap.size :: (t.ks b).drop k).length = n' at *
        have HN' := Lib.hid hn'
        clear hn'
        go_wp2_with fail
        go_ret
        have hp := HP2.out
        have hmn := hp.pl.leaf (x := w2.heap.size) k key.data.toList
        refine ⟨w2.heap.size, rfl, _, _, HT5.out, List.mem_append.2 (.inr (List.mem_singleton.2 rfl)), if_pos rfl, hp.st.leaf hxB, hmn.1, hmn.2, hp.fr.trans2 HF5.out (fun i hi hh => ?_), fun y hy => ?_⟩
        · rcases hp.ow i hh with e | e
          · exact e
          · omega
        · rcases HO5.out y hy with e | e
          · exact hp.ow y e
          · exact .inr (by have := hp.fr.size; omega)
      | true =>
        obtain ⟨hkl, hyc⟩ : ∃ h : k < (t.ks b).length, t.tx b ++ [y] <+: t.tx ((t.ks b)[k]'h) := by
          rcases HFk.out with ⟨e, -⟩ | ⟨-, h⟩
          · cases e
          · exact h
        have hcb := HP.out.obj.ok.kin b HP.out.bin _ (List.getElem_mem hkl)
        obtain ⟨c, hc⟩ : ∃ c, (t.ks b)[k]'hkl = c := ⟨_, rfl⟩
        obtain ⟨n, hn⟩ : ∃ n, (lcp (t.tx c) key.data.toList).length = n := ⟨_, rfl⟩
        obtain ⟨C, hC⟩ : ∃ C, bs (t.tx c) = C := ⟨_, rfl⟩
        rw [hc] at hyc hcb
        have hCom := fun w2 (hb2 : Below wr.heap.size wr w2) => common_calls w2 b c (t.tx b) (t.tx c) key ((HP.out.below hb2).obj.tr.nod b HP.out.bin).c0 ((HP.out.below hb2).obj.tr.nod c hcb.1).c0 hcb.2.1 HP.out.pre (HP.out.obj.ln c hcb.1) hK
        rw [hn] at hCom
        have HCom := Lib.hid hCom
        obtain ⟨a, cp, hvs, -, -, hcells⟩ := (HP.out.obj.tr.row b HP.out.bin).slice
        obtain ⟨g', rfl, hg, -⟩ := hcells k hkl
        have HE3 : Hid (∀ w2, Below wr.heap.size wr w2 → w2.cell? ⟨b, 3, none⟩ = some (.slice (some ⟨g', 0, none⟩) (t.ks b).length cp) ∧ w2.cell? ⟨g', k, none⟩ = some (.pointer (some ⟨c, 0, none⟩)) ∧ w2.cell? ⟨c, 0, none⟩ = some (.string C)) := Lib.hid (fun w2 hb2 => by
          have hp := HP.out.below hb2
          have h3 := (hp.obj.tr.nod b hp.bin).c3
          rw [hvs] at h3
          have hrow := hp.obj.tr.row b hp.bin
          rw [hvs] at hrow
          obtain ⟨a', cp', e1, -, -, hcs⟩ := hrow.slice
          injection e1 with e1 _ e2
          obtain ⟨g2, rfl, -, er⟩ := hcs k hkl
          injection e1 with e1
          injection e1 with e1
          subst e1
          rw [hc] at er
          have h0 := (hp.obj.tr.nod c hcb.1).c0
          rw [hC] at h0
          exact ⟨h3, er, h0⟩)
        have hCs : C.size = (t.tx c).length := by rw [← hC]; exact bs_size _
        have hnle : n ≤ C.size := by rw [hCs, ← hn]; exact (lcp_left _ _).length_le
        have hnk : n ≤ key.size := by rw [← hn, ← HKl.out]; exact (lcp_right _ _).length_le
        have hpk : key.data.toList.take n = lcp (t.tx c) key.data.toList := by rw [← hn]; exact (List.prefix_iff_eq_take.1 (lcp_right _ _)).symm
        have hkc : (k : Int) < ((t.ks b).length : Int) := by omega
        have HC : Hid (∃ h : k < (t.ks b).length, (t.ks b)[k]'h = c) := Lib.hid ⟨hkl, hc⟩
        have HYC := Lib.hid hyc
        have HCB := Lib.hid hcb
        have HCS := Lib.hid hCs
        have HN := Lib.hid hn
        have HPK := Lib.hid hpk
        have HVS := Lib.hid hvs
        have HKK : Hid (k < (t.ks b).length) := Lib.hid hkl
        clear hCom hcells hg hCs hn hpk hvs hyc hcb hC
        by_cases hlt2 : n < C.size
        case pos =>
          have hbn : (n : Int) < (C.size : Int) := by omega
          clear hc HFk hkl
          obtain ⟨ql, HQL⟩ : ∃ ql, Hid ((t.ks b).length = ql) := ⟨_, Lib.hid rfl⟩
          rw [HQL.out] at HE3 hkc
          go_wp2_with fail
          refine HFc.out.mono ?_; rintro en w2 ⟨rfl, hb2⟩
          obtain ⟨e3, er, ec⟩ := HE3.out w2 hb2
          have HB2 := Lib.hid hb2
          clear b0 HFc hb2
          go_wp2_with fail
          refine (HCom.out w2 HB2.out).mono ?_; rintro en w3 ⟨rfl, hb3⟩
          have HB3 := Lib.hid (bstep HB2.out hb3)
          obtain ⟨d3, dr, dc⟩ := HE3.out w3 HB3.out
          clear e3 er ec hb3
          go_wp2_with fail
          have HP4 := Lib.hid ((HP.out.below HB3.out).below (Below.refl _ _).drew)
          have HFo := Lib.hid (fork_calls w3.drew c key n hnk hK)
          have HFK : Hid (∀ w5 f v, NewNd w3.drew w5 f (key.data.toList.take n) v [c] → _) := Lib.hid (fun w5 f v hN => by
            rw [HPK.out] at hN
            obtain ⟨hk', hc'⟩ := HC.out
            exact HP4.out.fork hk' hc' HVS.out HY.out HYC.out (by rw [HN.out]; have := HCS.out; omega) hN)
          rw [HQL.out] at HFK
          simp only [ptr] at HFK
          go_region_with (go_at_call 80; with_reducible refine HFo.out.mono ?_; rintro en5 w5 ⟨f, v, rfl, hN⟩; obtain ⟨⟨x3, xf, xk⟩, ⟨xA, xfA⟩, t', vs', HP6', hlen', y3, yk⟩ := HFK.out w5 f v hN; have HP6 := Lib.hid HP6'; have HLN := Lib.hid hlen'; clear hN HP6' hlen' HFK HFo)
          all_goals (
            go_wp2_with fail
            go_roundg (gk - 1)
            case measure => have := HG.out; have := HLN.out; omega
            case rel => exact ⟨f, t', vs', rfl, Lib.hid (by have := HG.out; have := HLN.out; omega), HP6⟩)
        case neg =>
          have hbn : ¬ (n : Int) < (C.size : Int) := by omega
          clear hc HFk hkl
          obtain ⟨ql, HQL⟩ : ∃ ql, Hid ((t.ks b).length = ql) := ⟨_, Lib.hid rfl⟩
          rw [HQL.out] at HE3 hkc
          go_wp2_with fail
          refine HFc.out.mono ?_; rintro en w2 ⟨rfl, hb2⟩
          obtain ⟨e3, er, ec⟩ := HE3.out w2 hb2
          have HB2 := Lib.hid hb2
          clear b0 HFc hb2
          go_wp2_with fail
          refine (HCom.out w2 HB2.out).mono ?_; rintro en w3 ⟨rfl, hb3⟩
          have HB3 := Lib.hid (bstep HB2.out hb3)
          obtain ⟨d3, dr, dc⟩ := HE3.out w3 HB3.out
          clear e3 er ec hb3
          go_wp2_with fail
          go_roundg (gk - 1)
          case measure => have := HG.out; have := ext_len HYC.out; omega
          case rel =>
            have hp := HP.out.below HB3.out
            have hpl : Mn t none ∧ t.B.length = t0.B.length := by
              obtain ⟨hk', hc'⟩ := HC.out
              rcases hp.pl with h1 | ⟨-, -, -, h1⟩
              · exact h1
              · exact absurd HYC.out (h1 _ (by rw [← hc']; exact List.getElem_mem hk') y HY.out)
            have he : lcp (t.tx c) key.data.toList = t.tx c := (lcp_left _ _).eq_of_length (by rw [HN.out]; have := HCS.out; omega)
            exact ⟨c, t, vs, rfl, Lib.hid (by have := HG.out; have := ext_len HYC.out; omega), Lib.hid ⟨hp.obj, HCB.out.1, by rw [← he]; exact lcp_right _ _, hp.st, .inl hpl, hp.fr, hp.ow⟩⟩
end Go.Proofs.Ytnmncjeplfkdpaa.Pb
/- Put: a key has a number. Conditions: the tree as it lies; bounds. -/
namespace Go.Proofs.Ytnmncjeplfkdpaa.Pb
open Go.ChangeShapes Go.WideShapes Go.ChangeAt Go.RowKit
/-- A key's number. -/
def look (t : Tr) (K : T) : Option Int := (t.B.find? (fun b => decide (t.tx b = K))).bind t.nm
theorem look_at {t : Tr} (ho : Ok t) {b : Nat} (hb : b ∈ t.B) : look t (t.tx b) = t.nm b := by
  unfold look
  cases he : t.B.find? (fun c => decide (t.tx c = t.tx b)) with
  | none => exact absurd (List.find?_eq_none.1 he b hb) (by simp)
  | some c =>
    have h1 := List.find?_some he
    have h2 := List.mem_of_find?_eq_some he
    rw [ho.inj c h2 b hb (of_decide_eq_true h1)]
    rfl
theorem look_no {t : Tr} {K : T} (h : ∀ b ∈ t.B, t.tx b ≠ K) : look t K = none := by
  unfold look
  rw [List.find?_eq_none.2 (fun b hb e => h b hb (of_decide_eq_true e))]
  rfl
theorem look_st {t0 t : Tr} (h : St t0 t) (h0 : Ok t0) (ho : Ok t) (K : T) : look t K = look t0 K := by
  by_cases hK : ∃ b ∈ t.B, t.tx b = K
  · obtain ⟨b, hb, rfl⟩ := hK
    rw [look_at ho hb]
    by_cases hb0 : b ∈ t0.B
    · obtain ⟨-, e1, e2⟩ := h.sub b hb0
      rw [e1, look_at h0 hb0, e2]
    · rw [h.new b hb hb0, look_no (fun c hc e => hb0 (by
        obtain ⟨i, e1, -⟩ := h.sub c hc
        have := ho.inj c i b hb (by rw [e1, e])
        rw [← this]; exact hc))]
  · rw [look_no (fun b hb e => hK ⟨b, hb, e⟩), look_no (fun b hb e => hK ⟨b, (h.sub b hb).1, by rw [(h.sub b hb).2.1, e]⟩)]
theorem look_mark {t : Tr} (ho : Ok t) {b : Nat} (hb : b ∈ t.B) (o : Option Int) (K : T) : look (t.mark b o) K = if K = t.tx b then o else look t K := by
  have hm := ho.mark b o
  by_cases hK : ∃ c ∈ t.B, t.tx c = K
  · obtain ⟨c, hc, rfl⟩ := hK
    have h1 : look (t.mark b o) (t.tx c) = if c = b then o else t.nm c := look_at hm (b := c) hc
    rw [h1, look_at ho hc]
    by_cases hcb : c = b
    · rw [if_pos hcb, if_pos (by rw [hcb])]
    · rw [if_neg hcb, if_neg (fun e => hcb (ho.inj c hc b hb e))]
  · rw [look_no (t := t) (fun c hc e => hK ⟨c, hc, e⟩), if_neg (fun e => hK ⟨b, hb, e.symm⟩)]
    exact look_no (t := t.mark b o) (fun c hc e => hK ⟨c, hc, e⟩)
theorem Mn.mark {t : Tr} {b : Nat} (h : Mn t (some b)) (n : Int) : Mn (t.mark b (some n)) none := fun c hc hr _ => by
  by_cases hcb : c = b
  · exact .inl (by show (if c = b then some n else t.nm c) ≠ none; rw [if_pos hcb]; simp)
  · rcases h c hc hr (fun e => hcb (by injection e)) with h | h
    · exact .inl (by show (if c = b then some n else t.nm c) ≠ none; rw [if_neg hcb]; exact h)
    · exact .inr h
/-- One more, where there was none. -/
def fresh : Option Int → Nat
  | none => 1
  | some _ => 0
/-- Two cells of a node that are written. -/
theorem mark_mem {w w' : World} {A : Nat} {t : Tr} {vs : Nat → Value} {m m' : Nat} {b : Nat} {o : Option Int} (h : TObj w A t vs m) (hb : b ∈ t.B) (hw : ∀ y, y ≠ b → y ≠ A → w'.heap[y]? = w.heap[y]?) (hn : NdAt w' b (t.tx b) o (vs b))
    (h0 : w'.cell? ⟨A, 0, none⟩ = w.cell? ⟨A, 0, none⟩) (h1 : w'.cell? ⟨A, 1, none⟩ = some (.int .i64 m')) (h2 : w'.cell? ⟨A, 2, none⟩ = w.cell? ⟨A, 2, none⟩) (hf : ∀ j, w'.frozen? ⟨A, j, none⟩ = false) : TObj w' A (t.mark b o) vs m' := by
  refine ⟨⟨fun c hc => ?_, fun c hc => (h.tr.row c hc).keep (fun g hg => ?_), h.tr.rap, h.tr.rno⟩, h.ok.mark b o, h0.trans h.c0, h1, h2.trans h.c2, hf, h.na, h.nr, h.ln⟩
  · show NdAt w' c (t.tx c) (if c = b then o else t.nm c) (vs c)
    by_cases hcb : c = b
    · rw [if_pos hcb, hcb]; exact hn
    · rw [if_neg hcb]; exact (h.tr.nod c hc).keep (hw c hcb (fun e => h.na (e ▸ hc)))
  · exact hw g (fun e => (ob_lt h hc hg).2.1 (e ▸ hb)) (ob_lt h hc hg).2.2
theorem TObj.marked {w : World} {A : Nat} {t : Tr} {vs : Nat → Value} {m : Nat} {b : Nat} (h : TObj w A t vs m) (hb : b ∈ t.B) (o : Option Int) :
    TObj ((w.setCell ⟨b, 1, none⟩ (.bool o.isSome)).setCell ⟨b, 2, none⟩ (.int .i64 (o.getD 0))) A (t.mark b o) vs m ∧ Fr (own A t vs) w ((w.setCell ⟨b, 1, none⟩ (.bool o.isSome)).setCell ⟨b, 2, none⟩ (.int .i64 (o.getD 0))) := by
  have hbA : b ≠ A := fun e => h.na (e ▸ hb)
  have n0 := h.tr.nod b hb
  have e5 : ∀ y, y ≠ b → ((w.setCell ⟨b, 1, none⟩ (.bool o.isSome)).setCell ⟨b, 2, none⟩ (.int .i64 (o.getD 0))).heap[y]? = w.heap[y]? := fun y hy => (Below.heap_setCell _ ⟨b, 2, none⟩ _ y hy).trans (Below.heap_setCell _ ⟨b, 1, none⟩ _ y hy)
  have c2 : ∀ j, j ≠ 1 → j ≠ 2 → ((w.setCell ⟨b, 1, none⟩ (.bool o.isSome)).setCell ⟨b, 2, none⟩ (.int .i64 (o.getD 0))).cell? ⟨b, j, none⟩ = w.cell? ⟨b, j, none⟩ := fun j h1 h2 => by
    rw [World.cell?_setCell_other _ _ _ _ (addr_ne (.inr (fun e => h2 e.symm))), World.cell?_setCell_other _ _ _ _ (addr_ne (.inr (fun e => h1 e.symm)))]
  have z1 : (w.setCell ⟨b, 1, none⟩ (.bool o.isSome)).cell? ⟨b, 1, none⟩ = some (.bool o.isSome) := World.cell?_setCell_same _ _ _ n0.c1
  have z2 : (w.setCell ⟨b, 1, none⟩ (.bool o.isSome)).cell? ⟨b, 2, none⟩ = some (.int .i64 ((t.nm b).getD 0)) := (World.cell?_setCell_other _ _ _ _ (addr_ne (.inr (by decide)))).trans n0.c2
  have eA := e5 A (fun e => hbA e.symm)
  refine ⟨mark_mem h hb (fun y hy _ => e5 y hy) ⟨(c2 0 (by decide) (by decide)).trans n0.c0, (World.cell?_setCell_other _ _ _ _ (addr_ne (.inr (by decide)))).trans z1, World.cell?_setCell_same _ _ _ z2, (c2 3 (by decide) (by decide)).trans n0.c3, fun j => by rw [World.frozen?_setCell, World.frozen?_setCell]; exact n0.fz j⟩
    (World.cell?_of_block (a := ⟨A, 0, none⟩) eA) ((World.cell?_of_block (a := ⟨A, 1, none⟩) eA).trans h.c1) (World.cell?_of_block (a := ⟨A, 2, none⟩) eA) (fun j => (World.frozen?_of_block (a := ⟨A, j, none⟩) eA).trans (h.fz j)), ?_⟩
  exact (Fr.setCell w ⟨b, 1, none⟩ (.inr (.inl hb)) _).trans2 (Fr.setCell _ ⟨b, 2, none⟩ (S := own A t vs) (.inr (.inl hb)) _) (fun _ _ h => h)
theorem TObj.count {w : World} {A : Nat} {t : Tr} {vs : Nat → Value} {m : Nat} (h : TObj w A t vs m) (m' : Nat) : TObj (w.setCell ⟨A, 1, none⟩ (.int .i64 m')) A t vs m' ∧ Fr (own A t vs) w (w.setCell ⟨A, 1, none⟩ (.int .i64 m')) := by
  have e5 : ∀ y, y ≠ A → (w.setCell ⟨A, 1, none⟩ (.int .i64 m')).heap[y]? = w.heap[y]? := fun y hy => Below.heap_setCell _ ⟨A, 1, none⟩ _ y hy
  refine ⟨⟨h.tr.keep fun x hx => e5 x ?_, h.ok, (World.cell?_setCell_other _ _ _ _ (addr_ne (.inr (by decide)))).trans h.c0, World.cell?_setCell_same _ _ _ h.c1, (World.cell?_setCell_other _ _ _ _ (addr_ne (.inr (by decide)))).trans h.c2, fun j => by rw [World.frozen?_setCell]; exact h.fz j, h.na, h.nr, h.ln⟩, Fr.setCell w ⟨A, 1, none⟩ (.inl rfl) _⟩
  rcases hx with hx | ⟨b, hb, hx⟩
  · exact fun e => h.na (e ▸ hx)
  · exact fun e => h.nr b hb (e ▸ hx)
set_option maxHeartbeats 4000000 in
set_option maxRecDepth 100000 in
theorem put_calls {w : World} {A : Nat} {t0 : Tr} {vs0 : Nat → Value} {m : Nat} (h : TObj w A t0 vs0 m) (key : ByteArray) (n : Int) (hm0 : Mn t0 none) (hK : key.size ≤ 140737488351232) (hN : t0.B.length ≤ 1000000) (hm : m ≤ 1000000) :
    Calls Try.prog 38 #[.pointer (some ⟨A, 0, none⟩), .string key, .int .i64 n] w fun e w' => e = .returned (.bool (look t0 key.data.toList).isNone) ∧ ∃ t vs, TObj w' A t vs (m + fresh (look t0 key.data.toList)) ∧ Mn t none ∧ (∀ K, look t K = if K = key.data.toList then some n else look t0 K) ∧
      t.B.length ≤ t0.B.length + 2 ∧ Fr (own A t0 vs0) w w' ∧ ∀ y, own A t vs y → own A t0 vs0 y ∨ w.heap.size ≤ y := by
  obtain ⟨L, hL⟩ : ∃ L, L = look t0 key.data.toList := ⟨_, rfl⟩
  rw [← hL]
  have HL0 := Lib.hid hL
  clear hL
  have HP := Lib.hid (place_calls h key hm0 hK hN)
  have HO := Lib.hid h.ok
  clear h hm0 hK hN
  go_enter Try.func38, Try.ntmps38
  go_wp2_with fail
  refine HP.out.mono ?_; rintro en w1 ⟨b, rfl, t, vs, hT, hb, htx, hst, hmn, hlen, hfr, how⟩
  have HT := Lib.hid hT
  have hbA : b ≠ A := fun e => hT.na (e ▸ hb)
  have hlk : look t0 key.data.toList = t.nm b := by rw [← look_st hst HO.out hT.ok, ← htx, look_at hT.ok hb]
  have HLK : Hid (∀ K, look (t.mark b (some n)) K = if K = key.data.toList then some n else look t0 K) := Lib.hid (fun K => by rw [look_mark hT.ok hb, look_st hst HO.out hT.ok, htx])
  have b1 := (hT.tr.nod b hb).c1
  have f1 := (hT.tr.nod b hb).fz 1
  have b2 : (w1.setCell ⟨b, 1, none⟩ (.bool true)).cell? ⟨b, 2, none⟩ = some (.int .i64 ((t.nm b).getD 0)) := (World.cell?_setCell_other _ _ _ _ (addr_ne (.inr (by decide)))).trans (hT.tr.nod b hb).c2
  have f2 : (w1.setCell ⟨b, 1, none⟩ (.bool true)).frozen? ⟨b, 2, none⟩ = false := by rw [World.frozen?_setCell]; exact (hT.tr.nod b hb).fz 2
  have HM := Lib.hid (hT.marked hb (some n))
  have HX := Lib.hid (⟨hmn.mark n, hlen, hfr, how⟩ : Mn (t.mark b (some n)) none ∧ t.B.length ≤ t0.B.length + 2 ∧ Fr (own A t0 vs0) w w1 ∧ ∀ y, own A t vs y → own A t0 vs0 y ∨ w.heap.size ≤ y)
  have HLQ : Hid (L = t.nm b) := Lib.hid (HL0.out.trans hlk)
  have a1 := HM.out.1.c1
  have g1 := HM.out.1.fz 1
  simp only [Option.isSome_some, Option.getD_some] at a1 g1
  have HC := Lib.hid (HM.out.1.count (m + 1))
  clear hT hb htx hst hmn hlen hfr how hlk HP
  cases hnm : t.nm b with
  | none =>
    rw [hnm] at b1 b2
    simp only [Option.isSome_none, Option.getD_none] at b1 b2
    go_wp2_with fail
    go_ret
    have hX := HX.out
    have hS : ∀ i, i < w.heap.size → own A t vs i → own A t0 vs0 i := fun i hi hh => (hX.2.2.2 i hh).elim id (fun e => by omega)
    rw [HLQ.out, hnm]
    exact ⟨rfl, _, _, HC.out.1, hX.1, HLK.out, hX.2.1, (hX.2.2.1.trans2 HM.out.2 hS).trans2 HC.out.2 hS, hX.2.2.2⟩
  | some z =>
    rw [hnm] at b1 b2
    simp only [Option.isSome_some, Option.getD_some] at b1 b2
    go_wp2_with fail
    go_ret
    have hX := HX.out
    have hS : ∀ i, i < w.heap.size → own A t vs i → own A t0 vs0 i := fun i hi hh => (hX.2.2.2 i hh).elim id (fun e => by omega)
    rw [HLQ.out, hnm]
    exact ⟨rfl, _, _, HM.out.1, hX.1, HLK.out, hX.2.1, hX.2.2.1.trans2 HM.out.2 hS, hX.2.2.2⟩
end Go.Proofs.Ytnmncjeplfkdpaa.Pb
