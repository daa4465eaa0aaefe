/- Package expiry: the heap's Swap. Conditions: the heap as it lies. -/
import Derived.Test.YtabhnnffohnecaaEc1
namespace Go.Proofs.Ytabhnnffohnecaa.Ea
open Go.ChangeShapes Go.WideShapes Go.ChangeAt Go.RowKit
theorem addr_ne {b c i j : Nat} (h : b ≠ c ∨ i ≠ j) : (⟨b, i, none⟩ : Addr) ≠ ⟨c, j, none⟩ := by
  intro e
  injection e with e1 e2
  rcases h with h | h
  · exact h e1
  · exact h e2
/-- Two cells hold other values now (or one does); all others, and what is frozen, stand. -/
structure Set2 (a b : Addr) (u v : Value) (w w' : World) : Prop where
  ca : w'.cell? a = some u
  cb : w'.cell? b = some v
  ot : ∀ x, x ≠ a → x ≠ b → w'.cell? x = w.cell? x
  fz : ∀ x, w'.frozen? x = w.frozen? x
  fr : Fr (fun i => i = a.block ∨ i = b.block) w w'
theorem cell_set {w : World} {a b : Addr} {u v y : Value} (h : a ≠ b ∨ u = v) (hb : w.cell? b = some y) (ha : a = b → w.cell? a = some y) : (w.setCell a u).cell? b = some (if a = b then v else y) := by
  by_cases e : a = b
  · subst e
    rcases h with h | h
    · exact absurd rfl h
    · rw [if_pos rfl, ← h]; exact World.cell?_setCell_same w a u hb
  · rw [if_neg e]; exact (World.cell?_setCell_other _ _ _ _ e).trans hb
theorem set2_of (w : World) {a b : Addr} {u v x y : Value} (hne : a ≠ b ∨ u = v) (ha : w.cell? a = some x) (hb : w.cell? b = some y) : Set2 a b u v w ((w.setCell a u).setCell b v) := by
  refine ⟨?_, ?_, fun z h1 h2 => ?_, fun z => ?_, (Fr.setCell w a (.inl rfl) u).trans (Fr.setCell _ b (.inr rfl) v)⟩
  · by_cases e : a = b
    · subst e
      rcases hne with h | h
      · exact absurd rfl h
      · subst h; exact World.cell?_setCell_same _ a u (World.cell?_setCell_same w a u ha)
    · rw [World.cell?_setCell_other _ _ _ _ (Ne.symm e)]
      exact World.cell?_setCell_same w a u ha
  · by_cases e : a = b
    · subst e; exact World.cell?_setCell_same _ a v (World.cell?_setCell_same w a u ha)
    · exact World.cell?_setCell_same _ b v ((World.cell?_setCell_other _ _ _ _ e).trans hb)
  · rw [World.cell?_setCell_other _ _ _ _ (Ne.symm h2), World.cell?_setCell_other _ _ _ _ (Ne.symm h1)]
  · rw [World.frozen?_setCell, World.frozen?_setCell]
theorem set2_of' (w : World) {a b : Addr} {u v x y : Value} (hne : a ≠ b ∨ u = v) (ha : w.cell? a = some x) (hb : w.cell? b = some y) : Set2 a b u v w ((w.setCell b v).setCell a u) := by
  have h := set2_of w (u := v) (v := u) (hne.imp Ne.symm Eq.symm) hb ha
  exact ⟨h.cb, h.ca, fun z h1 h2 => h.ot z h2 h1, h.fz, h.fr.mono fun i => Or.symm⟩
theorem Set2.drew {a b : Addr} {u v : Value} {w w' : World} (h : Set2 a b u v w w') : Set2 a b u v w w'.drew := ⟨h.ca, h.cb, h.ot, h.fz, h.fr.trans (Fr.drew w')⟩
set_option maxHeartbeats 4000000 in
set_option maxRecDepth 100000 in
theorem swap_walk (w : World) (g c n i j x y : Nat) (p q : Value) (hi : i < n) (hj : j < n) (hx : x ≠ g) (hy : y ≠ g) (hxy : x = y ↔ i = j) (d0 : w.cell? ⟨g, i, none⟩ = some (ptr x)) (d1 : w.cell? ⟨g, j, none⟩ = some (ptr y)) (f : ∀ j, w.frozen? ⟨g, j, none⟩ = false)
    (cx : w.cell? ⟨x, 1 + 1, none⟩ = some p) (cy : w.cell? ⟨y, 1 + 1, none⟩ = some q) (fx : ∀ j, w.frozen? ⟨x, j, none⟩ = false) (fy : ∀ j, w.frozen? ⟨y, j, none⟩ = false) :
    Calls Try.prog 49 #[.slice (some ⟨g, 0, none⟩) n c, .int .i64 i, .int .i64 j] w fun e w' => e = .returned (.tuple #[]) ∧ ∃ W, W = ((w.setCell ⟨g, i, none⟩ (ptr y)).setCell ⟨g, j, none⟩ (ptr x)).drew ∧ Set2 ⟨g, i, none⟩ ⟨g, j, none⟩ (ptr y) (ptr x) w W ∧ Set2 ⟨y, 2, none⟩ ⟨x, 2, none⟩ (.int .i64 i) (.int .i64 j) W w' := by
  have bi : (i : Int) < (n : Int) := by omega
  have bj : (j : Int) < (n : Int) := by omega
  have hpq : x = y → p = q := fun e => by subst e; rw [cx] at cy; exact Option.some.inj cy
  unfold ptr at *
  have hne : (⟨g, i, none⟩ : Addr) ≠ ⟨g, j, none⟩ ∨ (Value.pointer (some ⟨y, 0, none⟩)) = .pointer (some ⟨x, 0, none⟩) := by
    by_cases e : i = j
    · exact .inr (by rw [hxy.2 e])
    · exact .inl (addr_ne (.inr e))
  have s1 : (w.setCell ⟨g, i, none⟩ (.pointer (some ⟨y, 0, none⟩))).cell? ⟨g, j, none⟩ = some (.pointer (some ⟨y, 0, none⟩)) := by
    by_cases e : i = j
    · rw [e]; exact World.cell?_setCell_same _ _ _ d1
    · exact (World.cell?_setCell_other _ _ _ _ (addr_ne (.inr e))).trans d1
  have f1 := f i
  have f2 := f j
  have HS := Lib.hid (set2_of w hne d0 d1)
  have HF : Hid (∀ j, w.frozen? ⟨g, j, none⟩ = false) := Lib.hid f
  have HX : Hid (w.cell? ⟨x, 1 + 1, none⟩ = some p ∧ w.cell? ⟨y, 1 + 1, none⟩ = some q ∧ (∀ j, w.frozen? ⟨x, j, none⟩ = false) ∧ (∀ j, w.frozen? ⟨y, j, none⟩ = false) ∧ (x = y ↔ i = j) ∧ (x = y → p = q)) := Lib.hid ⟨cx, cy, fx, fy, hxy, hpq⟩
  clear f cx cy fx fy hxy hpq hne
  have HK : Hid (∀ W, Set2 ⟨g, i, none⟩ ⟨g, j, none⟩ (Value.pointer (some ⟨y, 0, none⟩)) (.pointer (some ⟨x, 0, none⟩)) w W → W.cell? ⟨g, i, none⟩ = some (.pointer (some ⟨y, 0, none⟩)) ∧ W.cell? ⟨g, j, none⟩ = some (.pointer (some ⟨x, 0, none⟩)) ∧ W.cell? ⟨x, 2, none⟩ = some p ∧ W.cell? ⟨y, 2, none⟩ = some q ∧ W.frozen? ⟨x, 2, none⟩ = false ∧ W.frozen? ⟨y, 2, none⟩ = false ∧ (W.setCell ⟨y, 2, none⟩ (.int .i64 i)).cell? ⟨x, 2, none⟩ = some (if (⟨y, 2, none⟩ : Addr) = ⟨x, 2, none⟩ then .int .i64 j else p) ∧ (W.setCell ⟨x, 2, none⟩ (.int .i64 j)).cell? ⟨y, 2, none⟩ = some (if (⟨x, 2, none⟩ : Addr) = ⟨y, 2, none⟩ then .int .i64 i else q) ∧ Set2 ⟨y, 2, none⟩ ⟨x, 2, none⟩ (.int .i64 i) (.int .i64 j) W ((W.setCell ⟨y, 2, none⟩ (.int .i64 i)).setCell ⟨x, 2, none⟩ (.int .i64 j)) ∧ Set2 ⟨y, 2, none⟩ ⟨x, 2, none⟩ (.int .i64 i) (.int .i64 j) W ((W.setCell ⟨x, 2, none⟩ (.int .i64 j)).setCell ⟨y, 2, none⟩ (.int .i64 i))) := Lib.hid fun W h => by
    obtain ⟨cx, cy, fx, fy, hxy, hpq⟩ := HX.out
    have ex := (h.ot ⟨x, 2, none⟩ (addr_ne (.inl hx)) (addr_ne (.inl hx))).trans cx
    have ey := (h.ot ⟨y, 2, none⟩ (addr_ne (.inl hy)) (addr_ne (.inl hy))).trans cy
    have hn2 : (⟨y, 2, none⟩ : Addr) ≠ ⟨x, 2, none⟩ ∨ (Value.int .i64 (i : Int)) = .int .i64 j := by
      by_cases e : x = y
      · exact .inr (by rw [hxy.1 e])
      · exact .inl (addr_ne (.inl (Ne.symm e)))
    refine ⟨h.ca, h.cb, ex, ey, (h.fz _).trans (fx 2), (h.fz _).trans (fy 2), cell_set hn2 ex (fun e => by rw [e]; exact ex), cell_set (hn2.imp Ne.symm Eq.symm) ey (fun e => by rw [e]; exact ey), set2_of W hn2 ey ex, set2_of' W hn2 ey ex⟩
  go_enter Try.func49, Try.ntmps49
  go_wp2_with fail
  go_region
  · have H1 := Lib.hid HS.out.drew
    generalize hW : ((w.setCell ⟨g, i, none⟩ (.pointer (some ⟨y, 0, none⟩))).setCell ⟨g, j, none⟩ (.pointer (some ⟨x, 0, none⟩))).drew = W at *
    obtain ⟨e0, e1, e2, e3, e4, e5, e6, e7, e8, e9⟩ := HK.out W H1.out
    have E8 := Lib.hid e8
    have HW := Lib.hid hW.symm
    clear hW
    have E9 := Lib.hid e9
    clear HK HS HX HF s1 d0 d1 f1 f2 e8 e9
    go_wp2_with fail
    go_region
    all_goals (go_wp2_with fail; go_end0; first | exact ⟨rfl, W, HW.out, H1.out, E8.out.drew⟩ | exact ⟨rfl, W, HW.out, H1.out, E9.out.drew⟩)
/-- The blocks of a heap. -/
def ownH (v : Value) (l : List En) (x : Nat) : Prop := v.ownBlock = some x ∨ ∃ e ∈ l, x = e.b
theorem swp_map {l : List En} {i j : Nat} (hi : i < l.length) (hj : j < l.length) (f : En → Value) : (swp l i j).map f = ((l.map f).set i (f l[j])).set j (f l[i]) := by
  unfold swp
  rw [dif_pos ⟨hi, hj⟩, List.map_set, List.map_set]
theorem hswap_calls {w : World} {v : Value} {l : List En} (h : HpAt w v l) (i j : Nat) (hi : i < l.length) (hj : j < l.length) :
    Calls Try.prog 49 #[v, .int .i64 i, .int .i64 j] w fun e w' => e = .returned (.tuple #[]) ∧ HpAt w' v (swp l i j) ∧ Fr (ownH v l) w w' := by
  obtain ⟨a, c, rfl, -, -, hat⟩ := h.slice
  obtain ⟨g, rfl, d0, -⟩ := hat i hi
  have hf : ∀ j, w.frozen? ⟨g, j, none⟩ = false := fun j => by
    have hr := h.row
    unfold RowP at hr
    rw [List.length_map] at hr
    exact hr.frozenAt j
  obtain ⟨g', e, d1, -⟩ := hat j hj
  cases e
  have hng : ∀ k (hk : k < l.length), l[k].b ≠ g := fun k hk e => h.vn _ (List.getElem_mem hk) (by rw [e]; rfl)
  have hxy : l[i].b = l[j].b ↔ i = j := ⟨h.inj hi hj, fun e => by subst e; rfl⟩
  refine (swap_walk w g c l.length i j _ _ _ _ hi hj (hng i hi) (hng j hj) hxy d0 d1 hf (h.nd i hi).c2 (h.nd j hj).c2 (h.nd i hi).fz (h.nd j hj).fz).mono ?_
  rintro e w' ⟨rfl, W, hW, h1, h2⟩
  have hfr : Fr (ownH (.slice (some ⟨g, 0, none⟩) l.length c) l) w w' := by
    refine (h1.fr.mono ?_).trans (h2.fr.mono ?_)
    · rintro k (e | e) <;> exact .inl (congrArg some e.symm)
    · rintro k (e | e)
      · exact .inr ⟨_, List.getElem_mem hj, e⟩
      · exact .inr ⟨_, List.getElem_mem hi, e⟩
  refine ⟨rfl, ⟨?_, fun k hk => ?_, ?_, fun e he => h.vn e (swp_perm.mem_iff.1 he)⟩, hfr⟩
  · have hr := h.row
    unfold RowP at hr ⊢
    rw [List.length_map] at hr ⊢
    have r1 := (hr.stored i (ptr l[j].b)).1
    have r2 := (r1.stored j (ptr l[i].b)).1
    have r3 : W.ownsRow 0 61 1 (.slice (some ⟨g, 0, none⟩) l.length c) l.length (((((l.map (·.b)).map ptr).set i (ptr l[j].b))).set j (ptr l[i].b)) := by
      rw [hW]; exact row_block r2 fun _ _ => rfl
    rw [swp_len, List.map_map, swp_map hi hj (ptr ∘ (·.b)), ← List.map_map]
    refine row_block r3 fun g' hg' => ?_
    cases hg'
    refine h2.fr.block g ?_ ?_
    · have := row_lt r3 (g := g) rfl
      exact this
    · rintro (e | e)
      · exact hng j hj e.symm
      · exact hng i hi e.symm
  · have hk' : k < l.length := by rw [swp_len] at hk; exact hk
    rw [swp_at hi hj hk]
    have base : ∀ m (hm : m < l.length) o, (∀ x, (⟨l[m].b, o, none⟩ : Addr) = ⟨x, 2, none⟩ → False) → w'.cell? ⟨l[m].b, o, none⟩ = w.cell? ⟨l[m].b, o, none⟩ := fun m hm o ho => by
      rw [h2.ot _ (fun e => ho _ e) (fun e => ho _ e), h1.ot _ (addr_ne (.inl (hng m hm))) (addr_ne (.inl (hng m hm)))]
    have nd0 : ∀ m (hm : m < l.length), w'.cell? ⟨l[m].b, 2, none⟩ = some (.int .i64 k) → NdE w' l[m] k := fun m hm h3 =>
      ⟨(base m hm 0 (fun x e => by injection e with _ e; cases e)).trans (h.nd m hm).c0, (base m hm 1 (fun x e => by injection e with _ e; cases e)).trans (h.nd m hm).c1, h3, fun o => (h2.fz _).trans ((h1.fz _).trans ((h.nd m hm).fz o))⟩
    by_cases e1 : k = i
    · subst e1
      rw [if_pos rfl]
      exact nd0 j hj h2.ca
    · rw [if_neg e1]
      by_cases e2 : k = j
      · subst e2
        rw [if_pos rfl]
        exact nd0 i hi h2.cb
      · rw [if_neg e2]
        refine nd0 k hk' ?_
        rw [h2.ot _ (addr_ne (.inl fun e => e2 (h.inj hk' hj e))) (addr_ne (.inl fun e => e1 (h.inj hk' hi e))), h1.ot _ (addr_ne (.inl (hng k hk'))) (addr_ne (.inl (hng k hk')))]
        exact (h.nd k hk').c2
  · exact (swp_perm.map _).nodup_iff.2 h.ne
end Go.Proofs.Ytabhnnffohnecaa.Ea
