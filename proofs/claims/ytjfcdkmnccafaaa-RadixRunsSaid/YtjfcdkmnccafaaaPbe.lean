/- end, Get: the last node of the way to a key. Conditions: the tree as it lies; bounds. -/
import Derived.Test.YtjfcdkmnccafaaaPbd
namespace Go.Proofs.Ytjfcdkmnccafaaa.Pb
open Go.RowKit Go.Shelf
attribute [local go_sem] Oper.semAt_some
theorem cell_of_box_l {W : World} {B : Nat} {v : Value} {t : TypeId} (h : W.heap[B]? = some (.cells #[v] t (0, 0))) : W.cell? ⟨B, 0, none⟩ = some v ∧ W.frozen? ⟨B, 0, none⟩ = false := by
  constructor <;> simp [World.cell?, World.frozen?, h]
theorem cell_new_l (W : World) (v : Value) (t : TypeId) : (W.alloc (.cells #[v] t)).cell? ⟨W.heap.size, 0, none⟩ = some v ∧ (W.alloc (.cells #[v] t)).frozen? ⟨W.heap.size, 0, none⟩ = false :=
  cell_of_box_l (World.alloc_heap_new W _)
theorem cell_alloc_l {W : World} {a : Addr} {v : Value} (o : Obj) (h : W.cell? a = some v) : (W.alloc o).cell? a = some v := cell_kept h (World.grownBy_alloc W o none) (fun r e => by cases e)
theorem frozen_alloc_l {W : World} {a : Addr} {v : Value} (o : Obj) (h : W.cell? a = some v) (hf : W.frozen? a = false) : (W.alloc o).frozen? a = false := (frozen_kept h (World.grownBy_alloc W o none) (fun r e => by cases e)).trans hf
theorem ptrO_last {t : Tr} (pre : List (Nd t)) (x : Nd t) : ptrO ((pre ++ [x]).map (·.1)).getLast? = .pointer (some ⟨x.1, 0, none⟩) := by simp [ptrO]
set_option maxRecDepth 100000 in
set_option maxHeartbeats 4000000 in
theorem end_calls {w : World} {A : Nat} {t : Tr} {vs : Nat → Value} {m : Nat} (h : TObj w A t vs m) (key : ByteArray) (hK : key.size ≤ 1000000) (xs : List Nat) (hxs : Way t key.data.toList t.rt xs) :
    Calls Try.prog 28 #[.pointer (some ⟨A, 0, none⟩), .string key] w fun e w' => e = .returned (ptrO xs.getLast?) ∧ Below w.heap.size w w' := by
  refine (callsIn_wide (n := 3)).1 ?_
  refine callsIn_of_wp_marks Try.func28 rfl trivial ?_ rfl
  simp only [Try.ntmps28, List.size_toArray, List.length_cons, List.length_nil, Nat.reduceAdd, Nat.reduceSub, Array.replicate_succ, Array.replicate_zero, List.push_toArray, List.append_toArray, List.nil_append, List.cons_append]
  gi_wp2_with (refine ⟨trivial, ?_⟩; gi_at_call 24; refine (callsIn_wide.2 (way_calls _ A key)).mono ?_; rintro e w' ⟨rfl, rfl⟩)
  have c0 := cell_new_l w (.pointer none) 46
  have c1 := cell_new_l (w.alloc (.cells #[.pointer none] 46)) (.pointer (some ⟨A, 0, none⟩)) 25
  have c2 := cell_new_l ((w.alloc (.cells #[.pointer none] 46)).alloc (.cells #[.pointer (some ⟨A, 0, none⟩)] 25)) (.string key) 9
  simp only [World.size_alloc] at c1 c2
  have hB0 : Below w.heap.size w (((w.alloc (.cells #[.pointer none] 46)).alloc (.cells #[.pointer (some ⟨A, 0, none⟩)] 25)).alloc (.cells #[.string key] 9)) := (((Below.refl _ w).alloc (Nat.le_refl _) _).alloc (by simp) _).alloc (by simp; omega) _
  refine wpIn_rangeFunc_ownF rfl (by omega) (gf := 37) (lb := #[.pointer (some ⟨w.heap.size + 1, 0, none⟩), .pointer (some ⟨w.heap.size + 1 + 1, 0, none⟩)]) (by simp [Act.eval]) trivial (enters_of Try.func37 (by kernel_rfl) rfl)
    (way_stops (3 - 1) (by omega) (w.heap.size + 1) (w.heap.size + 1 + 1) w.heap.size A m key t vs xs hxs hK _ (h.below hB0) (fun y hy => h.lt hy) (by simp) (by simp) (cell_alloc_l _ c1.1) c2.1) (fun h k => Kps.trans h k) (Kps.put (by simp; omega) (by simp)) (Below.refl _ _) (fun _ => rfl)
    (fun pre W => (W.cell? ⟨w.heap.size, 0, none⟩ = some (ptrO (pre.map (·.1)).getLast?) ∧ W.frozen? ⟨w.heap.size, 0, none⟩ = false) ∧ Below w.heap.size w W)
    (fun _ _ _ => False)
    (OwnFrom.and (Own.from (fun s A B row hs hg hr => ⟨cell_kept hs.1 hg hr, (frozen_kept hs.1 hg hr).trans hs.2⟩) _) (ownFrom_below (Nat.le_refl _) (by simp; omega)))
    (fun _ _ _ _ _ hs _ _ => hs)
    ⟨⟨cell_alloc_l _ (cell_alloc_l _ c0.1), frozen_alloc_l _ (cell_alloc_l _ c0.1) (frozen_alloc_l _ c0.1 c0.2)⟩, hB0⟩
    (fun x : Nd t => { tmps := #[.pointer (some ⟨A, 0, none⟩), .string key, undef, undef, .pointer none, .pointer (some ⟨w.heap.size, 0, none⟩), .pointer (some ⟨x.1, 0, none⟩), .pointer (some ⟨A, 0, none⟩), .string key, .func (.func 37) #[] #[.pointer (some ⟨w.heap.size + 1, 0, none⟩), .pointer (some ⟨w.heap.size + 1 + 1, 0, none⟩)], .pointer (some ⟨x.1, 0, none⟩), undef, undef], defers := [] }) ?assign ?body ?done ?stop
  case assign =>
    intro l x W K hK
    gi_wp2
    exact hK
  case body =>
    rintro l pre x W ⟨⟨hc, hf⟩, hB⟩ _
    gi_wp2
    exact ⟨KeepsOthers.setCell _ _ _, Kps.set W ⟨w.heap.size, 0, none⟩ _ (Nat.le_refl _) (by show w.heap.size ≠ _; omega), ⟨by rw [ptrO_last]; exact World.cell?_setCell_same' _ _ _ (by rw [hc]; rfl), by rw [World.frozen?_setCell]; exact hf⟩, hB.setCell (p := ⟨w.heap.size, 0, none⟩) (Nat.le_refl _) _⟩
  case done =>
    rintro D ys W hD rfl ⟨⟨hc, _⟩, hB⟩ hK
    gi_wp2
    refine ⟨by simp, .inl ⟨_, _, rfl, run_takeDeferred hK, ?_⟩⟩
    exact ⟨_, results_tmp rfl _ _ _, rfl, hB.trans (belowK_b (w := w) (Nat.le_refl _) W D _ _ (by simp at hD; omega) hK rfl rfl)⟩
  case stop =>
    rintro D c pre W _ _ h _
    exact h.elim
theorem root_on {t : Tr} (ho : Ok t) (K : T) : On t K t.rt ∧ Inv t K t.rt := ⟨⟨ho.rin, .inl (by rw [ho.rtx]; exact List.nil_prefix)⟩, fun d _ _ => by rw [ho.rtx]; exact List.nil_prefix⟩
theorem end_lst {w : World} {A : Nat} {t : Tr} {vs : Nat → Value} {m : Nat} (h : TObj w A t vs m) (key : ByteArray) (hK : key.size ≤ 1000000) :
    Calls Try.prog 28 #[.pointer (some ⟨A, 0, none⟩), .string key] w fun e w' => ∃ b, e = .returned (.pointer (some ⟨b, 0, none⟩)) ∧ Lst t key.data.toList b ∧ Below w.heap.size w w' := by
  obtain ⟨xs, hx⟩ := way_ex h.ok key.data.toList _ t.rt h.ok.rin (Nat.le_refl _)
  obtain ⟨b, hb, hL⟩ := way_last h.ok hx (root_on h.ok _).1 (root_on h.ok _).2
  refine (end_calls h key hK xs hx).mono ?_
  rintro e w' ⟨rfl, hB⟩
  exact ⟨b, by rw [hb]; rfl, hL, hB⟩
end Go.Proofs.Ytjfcdkmnccafaaa.Pb
