/- slices.Collect over way. Conditions: the tree as it lies; bounds. -/
import Derived.Test.YtjfcdkmnccafaaaPbi
namespace Go.Proofs.Ytjfcdkmnccafaaa.Pb
open Go.RowKit Go.Shelf
attribute [local go_sem] Oper.semAt_some
def pX {t : Tr} (x : Nd t) : Value := .pointer (some ⟨x.1, 0, none⟩)
theorem iNd : (Try.prog.info? 46).map (fun i => (i.zero, i.size, i.bytes)) = some (some (.pointer none), 1, 8) := by kernel_rfl
set_option maxRecDepth 100000 in
set_option maxHeartbeats 8000000 in
theorem appendSeq_calls {w : World} {A : Nat} {t : Tr} {vs : Nat → Value} {m : Nat} (h : TObj w A t vs m) (key : ByteArray) (hK : key.size ≤ 1000000) (xs : List Nat) (hxs : Way t key.data.toList t.rt xs) (hxl : xs.length ≤ 1000001) (Bt Bk : Nat) (hBt : Bt < w.heap.size) (hBk : Bk < w.heap.size)
    (ct : w.cell? ⟨Bt, 0, none⟩ = some (.pointer (some ⟨A, 0, none⟩))) (ck : w.cell? ⟨Bk, 0, none⟩ = some (.string key)) :
    Calls Try.prog 36 #[.slice none 0 0, .func (.func 37) #[] #[.pointer (some ⟨Bt, 0, none⟩), .pointer (some ⟨Bk, 0, none⟩)]] w fun e w' => ∃ v, e = .returned v ∧ (∃ ys : List (Nd t), ys.map (·.1) = xs ∧ w'.ownsRow w.heap.size 46 1 v ys.length (ys.map pX)) ∧ Below w.heap.size w w' := by
  obtain ⟨i0, hi, hz0, hz1, hz2⟩ := info_parts iNd
  refine (callsIn_wide (n := 3)).1 ?_
  refine callsIn_of_wp_marks Try.func36 rfl trivial ?_ rfl
  simp only [Try.ntmps36, List.size_toArray, List.length_cons, List.length_nil, Nat.reduceAdd, Nat.reduceSub, Array.replicate_succ, Array.replicate_zero, List.push_toArray, List.append_toArray, List.nil_append, List.cons_append]
  gi_wp2
  have c0 := Boxed.new w 47 (.slice none 0 0)
  have hB0 : Below w.heap.size w (w.alloc (.cells #[.slice none 0 0] 47)) := (Below.refl _ w).alloc (Nat.le_refl _) _
  refine wpIn_rangeFunc_ownF rfl (by omega) (gf := 37) (lb := #[.pointer (some ⟨Bt, 0, none⟩), .pointer (some ⟨Bk, 0, none⟩)]) (by simp [Act.eval]) trivial (enters_of Try.func37 (by kernel_rfl) rfl)
    (way_stops (3 - 1) (by omega) Bt Bk w.heap.size A m key t vs xs hxs hK _ (h.below hB0) (fun y hy => h.lt hy) (by simp; omega) (by simp; omega) (cell_alloc_l _ ct) (cell_alloc_l _ ck)) (fun h k => Kps.trans h k) (Kps.put (by simp) (by simp; omega)) (Below.refl _ _) (fun _ => rfl)
    (fun (pre : List (Nd t)) W => (∃ v, Boxed W w.heap.size 47 v ∧ W.ownsRow w.heap.size 46 1 v pre.length (pre.map pX) ∧ True) ∧ Below w.heap.size w W)
    (fun _ _ _ => False)
    (OwnFrom.and (Own.from (holdsRow_own w.heap.size w.heap.size 47 46 1 (fun pre : List (Nd t) => pre.length) (fun pre => pre.map pX) (fun _ _ => True)) _) (ownFrom_below (Nat.le_refl _) (by simp)))
    (fun _ _ _ _ _ hs _ _ => hs)
    ⟨⟨_, c0, World.ownsRow_nil _ _ _ _, trivial⟩, hB0⟩
    (fun x : Nd t => { tmps := #[.slice none 0 0, .func (.func 37) #[] #[.pointer (some ⟨Bt, 0, none⟩), .pointer (some ⟨Bk, 0, none⟩)], .pointer (some ⟨w.heap.size, 0, none⟩), undef, .slice none 0 0, .pointer (some ⟨x.1, 0, none⟩), .func (.func 37) #[] #[.pointer (some ⟨Bt, 0, none⟩), .pointer (some ⟨Bk, 0, none⟩)], .pointer (some ⟨x.1, 0, none⟩), undef, undef, undef, undef, undef], defers := [] }) ?assign ?body ?done ?stop
  case assign =>
    intro l x W K hK
    gi_wp2
    exact hK
  case body =>
    rintro l pre x W ⟨⟨v, hv, hrow, -⟩, hB⟩ hpl
    have hvc := hv.cell
    have hvf := hv.frozen
    gi_wp2_with (gi_at_builtin; refine wpListIn_append_own _ rfl _ _ 47 rfl w.heap.size 46 i0 (.pointer none) 1 8 Try.underlying47 hi hz0 hz1 hz2 rfl (by decide) _ _ _ rfl (hrow.alloc _) ⟨W.heap.size, 0, none⟩ 1 1 [.pointer (some ⟨x.1, 0, none⟩)] rfl rfl (cell_one_new _ _ _) (by simp [Value.oneCell']) (by unfold maxLen; omega) (by omega) (by have := hB.size; simp; omega) ?_; intro v' w3 hown' hg3 _; obtain ⟨a1, a2, a3, a4, a5⟩ := hv.appended (by decide) hrow hB.size (Nat.le_refl _) hown' hg3; have d1 := a1.cell; have d2 := a1.frozen; obtain ⟨g5, c5, rfl⟩ := ownsRow_succ hown'; go_frame)
    refine ⟨a4, fun y hy => ?_, ⟨_, a2, ?_, trivial⟩, hB.trans a5⟩
    · rcases hy with hy | rfl
      · exact a5.block y hy
      · exact a5.block _ hBk
    · rw [List.length_append, List.map_append]; exact a3
  case done =>
    rintro D ys W hD hys ⟨⟨v, hv, hrow, -⟩, hB⟩ hKd
    have hvc := hv.cell
    gi_wp2
    refine ⟨by simp, .inl ⟨_, _, rfl, run_takeDeferred hKd, ?_⟩⟩
    exact ⟨_, results_tmp rfl _ _ _, v, rfl, ⟨ys, hys, ownsRow_putObj hrow _ hKd rfl⟩, hB.trans (belowK_b (w := w) (Nat.le_refl _) W D _ _ (by simp at hD; omega) hKd rfl rfl)⟩
  case stop =>
    rintro D c pre W _ _ h _
    exact h.elim
set_option maxHeartbeats 4000000 in
theorem collect_calls {w : World} {A : Nat} {t : Tr} {vs : Nat → Value} {m : Nat} (h : TObj w A t vs m) (key : ByteArray) (hK : key.size ≤ 1000000) (xs : List Nat) (hxs : Way t key.data.toList t.rt xs) (hxl : xs.length ≤ 1000001) (Bt Bk : Nat) (hBt : Bt < w.heap.size) (hBk : Bk < w.heap.size)
    (ct : w.cell? ⟨Bt, 0, none⟩ = some (.pointer (some ⟨A, 0, none⟩))) (ck : w.cell? ⟨Bk, 0, none⟩ = some (.string key)) :
    Calls Try.prog 23 #[.func (.func 37) #[] #[.pointer (some ⟨Bt, 0, none⟩), .pointer (some ⟨Bk, 0, none⟩)]] w fun e w' => ∃ v, e = .returned v ∧ KsAt w' v xs ∧ (∀ g, v.ownBlock = some g → w.heap.size ≤ g) ∧ Below w.heap.size w w' := by
  have HA := Lib.hid (appendSeq_calls h key hK xs hxs hxl Bt Bk hBt hBk ct ck)
  clear h hK hxs hxl hBt hBk ct ck
  go_enter Try.func23, Try.ntmps23
  go_wp2_with fail
  refine HA.out.mono ?_
  rintro en w2 ⟨v, rfl, ⟨ys, hys, hr⟩, hb⟩
  have e1 : ys.map pX = xs.map ptr := by rw [← hys, List.map_map]; rfl
  have e2 : ys.length = xs.length := by rw [← hys, List.length_map]
  rw [e1, e2] at hr
  go_wp2_with fail
  go_ret
  refine ⟨v, rfl, ⟨hr.1, ?_⟩, fun g hg => ?_, hb⟩
  · rcases hr.2 with h | ⟨g, cap, cur, h1, _, h2⟩
    · exact .inl h
    · exact .inr ⟨g, cap, cur, h1, Nat.zero_le _, h2⟩
  · rcases hr.2 with ⟨h, -⟩ | ⟨g', cap, cur, h1, h2, -⟩
    · rw [h] at hg; cases hg
    · rw [h1] at hg; cases hg; exact h2
end Go.Proofs.Ytjfcdkmnccafaaa.Pb
