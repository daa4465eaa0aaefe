/- slices.Collect over way. Conditions: the tree as it lies; bounds. -/
import Derived.Test.YtnmncjeplfkdpaaPbE
import Derived.Test.YtnmncjeplfkdpaaPdA
import Derived.Test.YtnmncjeplfkdpaaPbG
import Derived.Test.YtnmncjeplfkdpaaPbD
import Derived.Sort.LoopGhostIn
namespace Go.Proofs.Ytnmncjeplfkdpaa.Pb
open Go.RowKit Go.Shelf
attribute [local go_sem] Oper.semAt_some
def pX {t : Tr} (x : Nd t) : Value := .pointer (some ⟨x.1, 0, none⟩)
theorem iNd : (Try.prog.info? 71).map (fun i => (i.zero, i.size, i.bytes)) = some (some (.pointer none), 1, 8) := by kernel_rfl
set_option maxRecDepth 100000 in
set_option maxHeartbeats 8000000 in
theorem appendSeq_calls {w : World} {A : Nat} {t : Tr} {vs : Nat → Value} {m : Nat} (h : TObj w A t vs m) (key : ByteArray) (hK : key.size ≤ 140737488351232) (xs : List Nat) (hxs : Way t key.data.toList t.rt xs) (hxl : xs.length ≤ 1000001) (Bt Bk : Nat) (hBt : Bt < w.heap.size) (hBk : Bk < w.heap.size)
    (ct : w.cell? ⟨Bt, 0, none⟩ = some (.pointer (some ⟨A, 0, none⟩))) (ck : w.cell? ⟨Bk, 0, none⟩ = some (.string key)) :
    Calls Try.prog 81 #[.slice none 0 0, .func (.func 54) #[] #[.pointer (some ⟨Bt, 0, none⟩), .pointer (some ⟨Bk, 0, none⟩)]] w fun e w' => ∃ v, e = .returned v ∧ (∃ ys : List (Nd t), ys.map (·.1) = xs ∧ w'.ownsRow w.heap.size 71 1 v ys.length (ys.map pX)) ∧ Below w.heap.size w w' := by
  obtain ⟨i0, hi, hz0, hz1, hz2⟩ := info_parts iNd
  refine (callsIn_wide (n := 3)).1 ?_
  refine callsIn_of_wp_marks Try.func81 rfl trivial ?_ rfl
  simp only [Try.ntmps81, List.size_toArray, List.length_cons, List.length_nil, Nat.reduceAdd, Nat.reduceSub, Array.replicate_succ, Array.replicate_zero, List.push_toArray, List.append_toArray, List.nil_append, List.cons_append]
  gi_wp2
  have c0 := Boxed.new w 72 (.slice none 0 0)
  have hB0 : Below w.heap.size w (w.alloc (.cells #[.slice none 0 0] 72)) := (Below.refl _ w).alloc (Nat.le_refl _) _
  refine wpIn_rangeFunc_ownF rfl (by omega) (gf := 54) (lb := #[.pointer (some ⟨Bt, 0, none⟩), .pointer (some ⟨Bk, 0, none⟩)]) (by simp [Act.eval]) trivial (enters_of Try.func54 (by kernel_rfl) rfl)
    (way_stops (3 - 1) (by omega) Bt Bk w.heap.size A m key t vs xs hxs hK _ (h.below hB0) (fun y hy => h.lt hy) (by simp; omega) (by simp; omega) (cell_alloc_l _ ct) (cell_alloc_l _ ck)) (fun h k => Kps.trans h k) (Kps.put (by simp) (by simp; omega)) (Below.refl _ _) (fun _ => rfl)
    (fun (pre : List (Nd t)) W => (∃ v, Boxed W w.heap.size 72 v ∧ W.ownsRow w.heap.size 71 1 v pre.length (pre.map pX) ∧ True) ∧ Below w.heap.size w W)
    (fun _ _ _ => False)
    (OwnFrom.and (Own.from (holdsRow_own w.heap.size w.heap.size 72 71 1 (fun pre : List (Nd t) => pre.length) (fun pre => pre.map pX) (fun _ _ => True)) _) (ownFrom_below (Nat.le_refl _) (by simp)))
    (fun _ _ _ _ _ hs _ _ => hs)
    ⟨⟨_, c0, World.ownsRow_nil _ _ _ _, trivial⟩, hB0⟩
    (fun x : Nd t => { tmps := #[.slice none 0 0, .func (.func 54) #[] #[.pointer (some ⟨Bt, 0, none⟩), .pointer (some ⟨Bk, 0, none⟩)], .pointer (some ⟨w.heap.size, 0, none⟩), undef, .slice none 0 0, .pointer (some ⟨x.1, 0, none⟩), .func (.func 54) #[] #[.pointer (some ⟨Bt, 0, none⟩), .pointer (some ⟨Bk, 0, none⟩)], .pointer (some ⟨x.1, 0, none⟩), undef, undef, undef, undef, undef], defers := [] }) ?assign ?body ?done ?stop
  case assign =>
    intro l x W K hK
    gi_wp2
    exact hK
  case body =>
    rintro l pre x W ⟨⟨v, hv, hrow, -⟩, hB⟩ hpl
    have hvc := hv.cell
    have hvf := hv.frozen
    gi_wp2_with (gi_at_builtin; refine wpListIn_append_own _ rfl _ _ 72 rfl w.heap.size 71 i0 (.pointer none) 1 8 Try.underlying72 hi hz0 hz1 hz2 rfl (by decide) _ _ _ rfl (hrow.alloc _) ⟨W.heap.size, 0, none⟩ 1 1 [.pointer (some ⟨x.1, 0, none⟩)] rfl rfl (cell_one_new _ _ _) (by simp [Value.oneCell']) (by unfold maxLen; omega) (by omega) (by have := hB.size; simp; omega) ?_; intro v' w3 hown' hg3 _; obtain ⟨a1, a2, a3, a4, a5⟩ := hv.appended (by decide) hrow hB.size (Nat.le_refl _) hown' hg3; have d1 := a1.cell; have d2 := a1.frozen; obtain ⟨g5, c5, rfl⟩ := ownsRow_succ hown'; go_frame)
    refine ⟨a4, fun y hy => ?_, ⟨_, a2, ?_, trivial⟩, hB.trans a5⟩
    · rcases hy with hy | rfl
      · exact a5.block y hy
      · exact a5.block _ hBk
    · rw [List.length_append, List.map_append]; exact a3
  case done =>
    rintro D ys W hD hys ⟨⟨v, hv, hrow, -⟩, hB⟩ hKd
    have hvc := hv.cell
    gi_wp2
    refine ⟨by simp, .inl ⟨_, _, rfl, run_takeDeferred hKd, ?_⟩⟩
    exact ⟨_, results_tmp rfl _ _ _, v, rfl, ⟨ys, hys, ownsRow_putObj hrow _ hKd rfl⟩, hB.trans (belowK_b (w := w) (Nat.le_refl _) W D _ _ (by simp at hD; omega) hKd rfl rfl)⟩
  case stop =>
    rintro D c pre W _ _ h _
    exact h.elim
set_option maxHeartbeats 4000000 in
theorem collect_calls {w : World} {A : Nat} {t : Tr} {vs : Nat → Value} {m : Nat} (h : TObj w A t vs m) (key : ByteArray) (hK : key.size ≤ 140737488351232) (xs : List Nat) (hxs : Way t key.data.toList t.rt xs) (hxl : xs.length ≤ 1000001) (Bt Bk : Nat) (hBt : Bt < w.heap.size) (hBk : Bk < w.heap.size)
    (ct : w.cell? ⟨Bt, 0, none⟩ = some (.pointer (some ⟨A, 0, none⟩))) (ck : w.cell? ⟨Bk, 0, none⟩ = some (.string key)) :
    Calls Try.prog 51 #[.func (.func 54) #[] #[.pointer (some ⟨Bt, 0, none⟩), .pointer (some ⟨Bk, 0, none⟩)]] w fun e w' => ∃ v, e = .returned v ∧ KsAt w' v xs ∧ (∀ g, v.ownBlock = some g → w.heap.size ≤ g) ∧ Below w.heap.size w w' := by
  have HA := Lib.hid (appendSeq_calls h key hK xs hxs hxl Bt Bk hBt hBk ct ck)
  clear h hK hxs hxl hBt hBk ct ck
  go_enter Try.func51, Try.ntmps51
  go_wp2_with fail
  refine HA.out.mono ?_
  rintro en w2 ⟨v, rfl, ⟨ys, hys, hr⟩, hb⟩
  have e1 : ys.map pX = xs.map ptr := by rw [← hys, List.map_map]; rfl
  have e2 : ys.length = xs.length := by rw [← hys, List.length_map]
  rw [e1, e2] at hr
  go_wp2_with fail
  go_ret
  refine ⟨v, rfl, ⟨hr.1, ?_⟩, fun g hg => ?_, hb⟩
  · rcases hr.2 with h | ⟨g, cap, cur, h1, _, h2⟩
    · exact .inl h
    · exact .inr ⟨g, cap, cur, h1, Nat.zero_le _, h2⟩
  · rcases hr.2 with ⟨h, -⟩ | ⟨g', cap, cur, h1, h2, -⟩
    · rw [h] at hg; cases hg
    · rw [h1] at hg; cases hg; exact h2
end Go.Proofs.Ytnmncjeplfkdpaa.Pb
/- Plain: a way as a chain; a node less on it. No program, no condition. -/
namespace Go.Proofs.Ytnmncjeplfkdpaa.Pb
/-- f 0, f 1, .. f i: each below the one before, the root first. -/
structure Chn (t : Tr) (f : Nat → Nat) (i : Nat) : Prop where
  rt : f 0 = t.rt
  mem : ∀ j, j ≤ i → f j ∈ t.B
  kid : ∀ j, j < i → f (j + 1) ∈ t.ks (f j)
theorem Chn.lt {t : Tr} {f : Nat → Nat} {i : Nat} (h : Chn t f i) (ho : Ok t) {j : Nat} : ∀ {k : Nat}, j < k → k ≤ i → (t.tx (f j)).length < (t.tx (f k)).length := by
  intro k hjk hk
  induction k with
  | zero => omega
  | succ k ih =>
    obtain ⟨-, p, n⟩ := ho.kin (f k) (h.mem k (by omega)) (f (k + 1)) (h.kid k (by omega))
    have h1 : (t.tx (f k)).length < (t.tx (f (k + 1))).length := by
      have := p.length_le
      rcases Nat.lt_or_eq_of_le this with e | e
      · exact e
      · exact absurd (p.eq_of_length e) n
    rcases Nat.lt_or_eq_of_le (Nat.lt_succ_iff.1 hjk) with e | e
    · exact Nat.lt_trans (ih e (by omega)) h1
    · subst e; exact h1
theorem Chn.ne {t : Tr} {f : Nat → Nat} {i : Nat} (h : Chn t f i) (ho : Ok t) {j k : Nat} (hjk : j < k) (hk : k ≤ i) : f j ≠ f k := fun e => by
  have := h.lt ho hjk hk
  rw [e] at this
  omega
theorem Chn.mark {t : Tr} {f : Nat → Nat} {i : Nat} (h : Chn t f i) (b : Nat) (o : Option Int) : Chn (t.mark b o) f i := ⟨h.rt, h.mem, h.kid⟩
theorem Chn.skip {t : Tr} {f : Nat → Nat} {i : Nat} (h : Chn t f (i + 1)) (ho : Ok t) (l : List Nat) : Chn (t.skip (f i) (f (i + 1)) l) f i := by
  refine ⟨h.rt, fun j hj => ?_, fun j hj => ?_⟩
  · show f j ∈ t.B.filter _
    rw [List.mem_filter]
    exact ⟨h.mem j (by omega), by have := h.ne ho (j := j) (k := i + 1) (by omega) (Nat.le_refl _); simp [this]⟩
  · show f (j + 1) ∈ (if f j = f i then l else t.ks (f j))
    rw [if_neg (h.ne ho (by omega) (by omega))]
    exact h.kid j (by omega)
theorem way_chain {t : Tr} {K : T} (ho : Ok t) {b : Nat} {xs : List Nat} (h : Way t K b xs) (hb : b ∈ t.B) : xs.getD 0 0 = b ∧ 0 < xs.length ∧ (∀ j, j < xs.length → xs.getD j 0 ∈ t.B) ∧ ∀ j, j + 1 < xs.length → xs.getD (j + 1) 0 ∈ t.ks (xs.getD j 0) := by
  induction h with
  | @last b h => exact ⟨rfl, by simp, fun j hj => by
      have : j = 0 := by simpa using hj
      subst this; exact hb, fun j hj => by simp at hj⟩
  | @more b c l h hl ih =>
    have hc : c ∈ t.ks b := by
      rcases h with ⟨e, -⟩ | ⟨-, d, hd, e, -⟩
      · cases e
      · cases e; exact hd
    obtain ⟨h1, h2, h3, h4⟩ := ih (ho.kin b hb c hc).1
    refine ⟨rfl, by simp, fun j hj => ?_, fun j hj => ?_⟩
    · cases j with
      | zero => exact hb
      | succ j => exact h3 j (by simpa using hj)
    · cases j with
      | zero => show l.getD 0 0 ∈ t.ks b; rw [h1]; exact hc
      | succ j => exact h4 j (by simpa using hj)
theorem way_chn {t : Tr} {K : T} (ho : Ok t) {xs : List Nat} (h : Way t K t.rt xs) : 0 < xs.length ∧ Chn t (fun j => xs.getD j 0) (xs.length - 1) := by
  obtain ⟨h1, h2, h3, h4⟩ := way_chain ho h ho.rin
  exact ⟨h2, h1, fun j hj => h3 j (by omega), fun j hj => h4 j (by omega)⟩
theorem way_len {t : Tr} {K : T} (ho : Ok t) {xs : List Nat} (h : Way t K t.rt xs) (N : Nat) (hN : ∀ b ∈ t.B, (t.tx b).length ≤ N) : xs.length ≤ N + 1 := by
  obtain ⟨h1, hc⟩ := way_chn ho h
  generalize (fun j => xs.getD j 0) = f at hc
  have key : ∀ k, k ≤ xs.length - 1 → k ≤ (t.tx (f k)).length := by
    intro k
    induction k with
    | zero => intro _; exact Nat.zero_le _
    | succ k ih =>
      intro hk
      have := hc.lt ho (j := k) (k := k + 1) (by omega) hk
      have := ih (by omega)
      omega
  have h2 := key _ (Nat.le_refl _)
  have h3 := hN _ (hc.mem _ (Nat.le_refl _))
  omega
theorem Mn.unmark {t : Tr} {b : Nat} (h : Mn t none) : Mn (t.mark b none) (some b) := fun c hc hr hcb => by
  have hcb : c ≠ b := fun e => hcb (by rw [e])
  rcases h c hc hr (by simp) with h | h
  · exact .inl (by show (if c = b then none else t.nm c) ≠ none; rw [if_neg hcb]; exact h)
  · exact .inr h
theorem Mn.skip {t : Tr} {b x : Nat} {l : List Nat} (h : Mn t (some x)) : Mn (t.skip b x l) (some b) := fun c hc hr hcb => by
  have hcb : c ≠ b := fun e => hcb (by rw [e])
  have hc : c ∈ t.B.filter (fun c => !decide (c = x)) := hc
  rw [List.mem_filter] at hc
  have hcx : c ≠ x := by have := hc.2; simpa using this
  rcases h c hc.1 hr (fun e => hcx (by injection e)) with h | h
  · exact .inl h
  · exact .inr (by show 2 ≤ (if c = b then l else t.ks c).length; rw [if_neg hcb]; exact h)
theorem look_skip {t : Tr} {b x : Nat} {l : List Nat} (ho : Ok t) (ho' : Ok (t.skip b x l)) (hx : x ∈ t.B) (hn : t.nm x = none) (K : T) : look (t.skip b x l) K = look t K := by
  have mem : ∀ c, c ∈ (t.skip b x l).B ↔ c ∈ t.B ∧ c ≠ x := fun c => by show c ∈ t.B.filter _ ↔ _; simp
  by_cases hK : ∃ c ∈ t.B, t.tx c = K
  · obtain ⟨c, hc, rfl⟩ := hK
    rw [look_at ho hc]
    by_cases hcx : c = x
    · subst hcx
      rw [hn, look_no]
      intro d hd e
      exact ((mem d).1 hd).2 (ho.inj d ((mem d).1 hd).1 c hc e)
    · exact look_at ho' (b := c) ((mem c).2 ⟨hc, hcx⟩)
  · rw [look_no (t := t) (fun c hc e => hK ⟨c, hc, e⟩)]
    exact look_no (fun c hc e => hK ⟨c, ((mem c).1 hc).1, e⟩)
end Go.Proofs.Ytnmncjeplfkdpaa.Pb
/- Drop. Conditions: the tree as it lies; bounds; a key that is there is counted. -/
namespace Go.Proofs.Ytnmncjeplfkdpaa.Pb
open Go.ChangeShapes Go.WideShapes Go.ChangeAt Go.RowKit
/-- Between two rounds. -/
structure DRel (w : World) (A : Nat) (t0 : Tr) (vs0 : Nat → Value) (m1 : Nat) (f : Nat → Nat) (K : T) (g n : Nat) (wr : World) (t : Tr) (vs : Nat → Value) (i : Nat) : Prop where
  obj : TObj wr A t vs m1
  chn : Chn t f i
  mn : Mn t (some (f i))
  lk : ∀ K', look t K' = if K' = K then none else look t0 K'
  len : t.B.length ≤ t0.B.length
  fr : Fr (own A t0 vs0) w wr
  ow : ∀ y, own A t vs y → own A t0 vs0 y ∨ w.heap.size ≤ y
  row : ∀ j, j < n → wr.cell? ⟨g, j, none⟩ = some (.pointer (some ⟨f j, 0, none⟩))
  gn : ¬ own A t vs g
  gl : g < wr.heap.size
theorem DRel.done {w : World} {A : Nat} {t0 : Tr} {vs0 : Nat → Value} {m1 : Nat} {f : Nat → Nat} {K : T} {g n : Nat} {wr : World} {t : Tr} {vs : Nat → Value} {i : Nat} (h : DRel w A t0 vs0 m1 f K g n wr t vs i) (hi : i = 0 ∨ t.nm (f i) ≠ none ∨ 2 ≤ (t.ks (f i)).length) : Mn t none := fun c hc hr _ => by
  by_cases hcf : c = f i
  · subst hcf
    rcases hi with rfl | hi
    · exact absurd h.chn.rt hr
    · exact hi
  · exact h.mn c hc hr (fun e => hcf (by injection e))
theorem DRel.step {w : World} {A : Nat} {t0 : Tr} {vs0 : Nat → Value} {m1 : Nat} {f : Nat → Nat} {K : T} {g n : Nat} {wr W : World} {t : Tr} {vs vs' : Nat → Value} {i : Nat} {l : List Nat} (h : DRel w A t0 vs0 m1 f K g n wr t vs (i + 1)) (hn : t.nm (f (i + 1)) = none)
    (hok : Ok (t.skip (f i) (f (i + 1)) l)) (hT : TObj W A (t.skip (f i) (f (i + 1)) l) vs' m1) (hF : Fr (own A t vs) wr W) (hO : ∀ y, own A (t.skip (f i) (f (i + 1)) l) vs' y → own A t vs y ∨ wr.heap.size ≤ y) :
    DRel w A t0 vs0 m1 f K g n W (t.skip (f i) (f (i + 1)) l) vs' i := by
  have hx := h.chn.mem (i + 1) (Nat.le_refl _)
  refine ⟨hT, h.chn.skip h.obj.ok l, h.mn.skip, fun K' => by rw [look_skip h.obj.ok hok hx hn]; exact h.lk K', ?_, h.fr.trans2 hF (fun y hy hh => ?_), fun y hy => ?_, fun j hj => ?_, fun e => ?_, Nat.lt_of_lt_of_le h.gl hF.size⟩
  · have h1 : (t.skip (f i) (f (i + 1)) l).B.length ≤ t.B.length := List.length_filter_le _ _
    have := h.len
    omega
  · rcases h.ow y hh with e | e
    · exact e
    · omega
  · rcases hO y hy with e | e
    · exact h.ow y e
    · exact .inr (by have := h.fr.size; omega)
  · exact (World.cell?_of_block (a := ⟨g, j, none⟩) (hF.block g h.gl h.gn)).trans (h.row j hj)
  · rcases hO g e with e | e
    · exact h.gn e
    · have := h.gl; omega
theorem DRel.below {w : World} {A : Nat} {t0 : Tr} {vs0 : Nat → Value} {m1 : Nat} {f : Nat → Nat} {K : T} {g n : Nat} {wr W : World} {t : Tr} {vs : Nat → Value} {i : Nat} (h : DRel w A t0 vs0 m1 f K g n wr t vs i) (hb : Below wr.heap.size wr W) : DRel w A t0 vs0 m1 f K g n W t vs i :=
  ⟨h.obj.below hb, h.chn, h.mn, h.lk, h.len, h.fr.trans2 (Fr.of_below (S := fun _ => False) hb) (fun _ _ h => h.elim), h.ow, fun j hj => (hb.cell (p := ⟨g, j, none⟩) h.gl).trans (h.row j hj), h.gn, Nat.lt_of_lt_of_le h.gl hb.size⟩
theorem DRel.skipC {w : World} {A : Nat} {t0 : Tr} {vs0 : Nat → Value} {m1 : Nat} {f : Nat → Nat} {K : T} {g n : Nat} {wr : World} {t : Tr} {vs : Nat → Value} {i : Nat} (h : DRel w A t0 vs0 m1 f K g n wr t vs (i + 1)) (hq : (!(t.nm (f (i + 1))).isSome && decide ((t.ks (f (i + 1))).length < 2)) = true) :
    Calls Try.prog 53 #[.pointer (some ⟨f i, 0, none⟩), .pointer (some ⟨f (i + 1), 0, none⟩)] wr fun e w' => e = .returned (.tuple #[]) ∧ ∃ t' vs', w'.cell? ⟨A, 2, none⟩ = some (.int .i64 t.B.length) ∧ w'.frozen? ⟨A, 2, none⟩ = false ∧
      DRel w A t0 vs0 m1 f K g n (w'.setCell ⟨A, 2, none⟩ (.int .i64 ((t.B.length : Int) - 1))) t' vs' i := by
  simp only [Bool.and_eq_true, Bool.not_eq_true', decide_eq_true_eq] at hq
  have hn : t.nm (f (i + 1)) = none := by
    cases e : t.nm (f (i + 1)) with
    | none => rfl
    | some z => rw [e] at hq; cases hq.1
  refine (skip_calls h.obj (h.chn.mem i (by omega)) (h.chn.kid i (by omega)) (by omega)).mono ?_
  rintro e w' ⟨rfl, l, vs', -, hok, h2, h3, hT, hF, hO⟩
  exact ⟨rfl, _, vs', h2, h3, h.step hn hok hT hF hO⟩
set_option maxHeartbeats 8000000 in
set_option maxRecDepth 100000 in
theorem drop_calls {w : World} {A : Nat} {t0 : Tr} {vs0 : Nat → Value} {m : Nat} (h : TObj w A t0 vs0 m) (key : ByteArray) (hm0 : Mn t0 none) (hK : key.size ≤ 140737488351232) (hN : t0.B.length ≤ 1000000) (hm : m ≤ 1000000) (hm1 : look t0 key.data.toList ≠ none → 1 ≤ m) :
    Calls Try.prog 40 #[.pointer (some ⟨A, 0, none⟩), .string key] w fun e w' => e = .returned (.bool (look t0 key.data.toList).isSome) ∧ ∃ t vs, TObj w' A t vs (m - (1 - fresh (look t0 key.data.toList))) ∧ Mn t none ∧ (∀ K, look t K = if K = key.data.toList then none else look t0 K) ∧
      t.B.length ≤ t0.B.length ∧ Fr (own A t0 vs0) w w' ∧ ∀ y, own A t vs y → own A t0 vs0 y ∨ w.heap.size ≤ y := by
  obtain ⟨xs, hxs⟩ := way_ex h.ok key.data.toList _ t0.rt h.ok.rin (Nat.le_refl _)
  obtain ⟨b, hb, hL⟩ := way_last h.ok hxs (root_on h.ok _).1 (root_on h.ok _).2
  obtain ⟨hn0, hC⟩ := way_chn h.ok hxs
  obtain ⟨f, hf⟩ : ∃ f : Nat → Nat, f = fun j => xs.getD j 0 := ⟨_, rfl⟩
  rw [← hf] at hC
  have hxl : xs.length ≤ 1000000 := by
    have h1 := (way_rise h.ok hxs h.ok.rin).2
    have h2 : xs.Nodup := h1.imp fun {a b} hab e => hab.2 (by rw [e])
    have h3 := nd_leT h2 fun x hx => (way_on h.ok hxs (root_on h.ok _).1 x hx).1
    omega
  obtain ⟨n1, hn1⟩ : ∃ n1, xs.length = n1 + 1 := ⟨xs.length - 1, by omega⟩
  have hbf : b = f n1 := by
    rw [List.getLast?_eq_getElem?, hn1, show n1 + 1 - 1 = n1 by omega] at hb
    rw [hf]
    show b = xs.getD n1 0
    rw [List.getD_eq_getElem?_getD, hb]; rfl
  rw [hn1, show n1 + 1 - 1 = n1 by omega] at hC
  have hfx : ∀ j (hj : j < xs.length), xs[j] = f j := fun j hj => by rw [hf]; simp [List.getD_eq_getElem?_getD, hj]
  subst hbf
  have hW : ∀ (w1 : World), w1 = (w.alloc (.cells #[.pointer (some ⟨A, 0, none⟩)] 49)).alloc (.cells #[.string key] 9) → Below w.heap.size w w1 ∧
      Calls Try.prog 51 #[.func (.func 54) #[] #[.pointer (some ⟨w.heap.size, 0, none⟩), .pointer (some ⟨w.heap.size + 1, 0, none⟩)]] w1 fun e w' => ∃ v, e = .returned v ∧ KsAt w' v xs ∧ (∀ g, v.ownBlock = some g → w1.heap.size ≤ g) ∧ Below w1.heap.size w1 w' := fun w1 e => by
    have hB : Below w.heap.size w w1 := by rw [e]; exact ((Below.refl _ w).alloc (Nat.le_refl _) _).alloc (by simp) _
    have c1 := cell_new_l w (.pointer (some ⟨A, 0, none⟩)) 49
    have c2 := cell_new_l (w.alloc (.cells #[.pointer (some ⟨A, 0, none⟩)] 49)) (.string key) 9
    simp only [World.size_alloc] at c2
    exact ⟨hB, collect_calls (h.below hB) key hK xs hxs (by omega) w.heap.size (w.heap.size + 1) (by rw [e]; simp; omega) (by rw [e]; simp) (by rw [e]; exact cell_alloc_l _ c1.1) (by rw [e]; exact c2.1)⟩
  have HW := Lib.hid hW
  have HH := Lib.hid h
  have HL := Lib.hid hL
  have HC := Lib.hid hC
  have HFX := Lib.hid hfx
  have HN1 := Lib.hid hn1
  have HM1 := Lib.hid hm1
  have HM0 := Lib.hid hm0
  clear h hL hC hfx hf hb hxs hn0 hW hm1 hm0
  have hw1 : IntKind.i64.wrap ((xs.length : Int) - 1) = (n1 : Int) := by rw [IntKind.wrap_i64]; omega
  have hb1 : (n1 : Int) < (xs.length : Int) := by omega
  have hb2 : (n1 : Int) < (n1 : Int) + 1 := by omega
  go_enter Try.func40, Try.ntmps40
  go_wp2_with fail
  refine (way_calls _ A key).mono ?_; rintro en w1 ⟨rfl, hw1e⟩
  obtain ⟨hB1, hCo⟩ := HW.out w1 hw1e
  have HB1 := Lib.hid hB1
  have HCo := Lib.hid hCo
  clear hB1 hCo hw1e HW
  go_wp2_with fail
  refine HCo.out.mono ?_; rintro en w2 ⟨v, rfl, hks, hvo, hB2⟩
  have HB2 := Lib.hid (bstep HB1.out hB2)
  have HT := Lib.hid (HH.out.below HB2.out)
  obtain ⟨a, cp, rfl, -, -, hcs⟩ := hks.slice
  obtain ⟨g, rfl, hgl, -⟩ := hcs 0 (by have := HN1.out; omega)
  have HG : Hid (w.heap.size ≤ g ∧ g < w2.heap.size) := Lib.hid ⟨by have := hvo g rfl; have := HB1.out.size; omega, hgl⟩
  have HR : Hid (∀ j, j < xs.length → w2.cell? ⟨g, j, none⟩ = some (.pointer (some ⟨f j, 0, none⟩))) := Lib.hid (fun j hj => by
    obtain ⟨g', e, -, hc⟩ := hcs j hj
    cases e
    rw [hc, HFX.out j hj]; rfl)
  clear hks hvo hB2 hcs hgl HCo HB1
  have r1 := HR.out n1 (by have := HN1.out; omega)
  have hn := HT.out.tr.nod (f n1) HL.out.on.1
  have b0 := hn.c0
  have b1 := hn.c1
  clear hn
  by_cases he : t0.tx (f n1) = key.data.toList
  case neg =>
    have hk : ((bs (t0.tx (f n1))).toList == key.toList) = false := by
      rw [beq_eq_false_iff_ne, bs_toList, ByteArray.toList_eq]; exact he
    have HGt : Hid (look t0 key.data.toList = none) := Lib.hid (by rw [HL.out.get HH.out.ok, if_neg he])
    clear he
    generalize bs (t0.tx (f n1)) = P at *
    go_wp2_with fail
    go_ret
    rw [HGt.out, show m - (1 - fresh none) = m by simp [fresh]]
    refine ⟨rfl, t0, vs0, HT.out, HM0.out, fun K => ?_, Nat.le_refl _, Fr.of_below HB2.out, fun y hy => .inl hy⟩
    by_cases hKK : K = key.data.toList
    · rw [if_pos hKK, hKK, HGt.out]
    · rw [if_neg hKK]
  case pos =>
    have hk : ((bs (t0.tx (f n1))).toList == key.toList) = true := by rw [he, bs_data]; exact beq_self_eq_true _
    have HGt : Hid (look t0 key.data.toList = t0.nm (f n1)) := Lib.hid (by rw [HL.out.get HH.out.ok, if_pos he])
    have HE := Lib.hid he
    clear he
    generalize bs (t0.tx (f n1)) = P at *
    cases hnm : t0.nm (f n1) with
    | none =>
      rw [hnm] at b1
      simp only [Option.isSome_none] at b1
      go_wp2_with fail
      go_ret
      rw [HGt.out, hnm, show m - (1 - fresh none) = m by simp [fresh]]
      refine ⟨rfl, t0, vs0, HT.out, HM0.out, fun K => ?_, Nat.le_refl _, Fr.of_below HB2.out, fun y hy => .inl hy⟩
      by_cases hKK : K = key.data.toList
      · rw [if_pos hKK, hKK, HGt.out, hnm]
      · rw [if_neg hKK]
    | some z =>
      rw [hnm] at b1
      simp only [Option.isSome_some] at b1
      have hnd := HT.out.tr.nod (f n1) HL.out.on.1
      have b2 : w2.cell? ⟨f n1, 2, none⟩ = some (.int .i64 z) := by have := hnd.c2; rw [hnm] at this; exact this
      have f1 := hnd.fz 1
      have f2 := hnd.fz 2
      have b2' : (w2.setCell ⟨f n1, 1, none⟩ (.bool false)).cell? ⟨f n1, 2, none⟩ = some (.int .i64 z) := (World.cell?_setCell_other _ _ _ _ (addr_ne (.inr (by decide)))).trans b2
      have HM := Lib.hid (HT.out.marked HL.out.on.1 none)
      have a1 := HM.out.1.c1
      have g1 := HT.out.fz 1
      simp only [Option.isSome_none, Option.getD_none] at a1
      have hmp : 1 ≤ m := HM1.out (by rw [HGt.out, hnm]; simp)
      have hwm : IntKind.i64.wrap ((m : Int) - 1) = ((m - 1 : Nat) : Int) := by rw [IntKind.wrap_i64]; omega
      have HCn := Lib.hid (HM.out.1.count (m - 1))
      have H0 : Hid (DRel w A t0 vs0 (m - 1) f key.data.toList g (n1 + 1) (((w2.setCell ⟨f n1, 1, none⟩ (.bool false)).setCell ⟨f n1, 2, none⟩ (.int .i64 0)).setCell ⟨A, 1, none⟩ (.int .i64 ((m - 1 : Nat) : Int))).drew (t0.mark (f n1) none) vs0 n1) := by
        have hdB : ∀ W : World, Below W.heap.size W W.drew := fun W => (Below.refl _ W).drew
        have hgA : g ≠ A := fun e => by have := HH.out.lt (x := A) (.inl rfl); have := HG.out.1; omega
        have hgf : g ≠ f n1 := fun e => by have := HH.out.lt (x := f n1) (.inr (.inl HL.out.on.1)); have := HG.out.1; omega
        have hS : ∀ i, i < w.heap.size → own A t0 vs0 i → own A t0 vs0 i := fun i _ h => h
        refine Lib.hid ⟨HCn.out.1.below (hdB _), HC.out.mark _ _, HM0.out.unmark, fun K' => ?_, Nat.le_refl _, (((Fr.of_below (S := own A t0 vs0) HB2.out).trans2 HM.out.2 hS).trans2 HCn.out.2 hS).trans2 (Fr.of_below (S := own A t0 vs0) (hdB _)) hS, fun y hy => .inl hy, fun j hj => ?_, fun e => ?_, ?_⟩
        · rw [look_mark HH.out.ok HL.out.on.1, HE.out]
        · show World.cell? _ _ = _
          rw [World.cell?_drew, World.cell?_setCell_other _ _ _ _ (addr_ne (.inl (fun e => hgA e.symm))), World.cell?_setCell_other _ _ _ _ (addr_ne (.inl (fun e => hgf e.symm))), World.cell?_setCell_other _ _ _ _ (addr_ne (.inl (fun e => hgf e.symm)))]
          exact HR.out j (by have := HN1.out; omega)
        · have := HH.out.lt e; have := HG.out.1; omega
        · have := HG.out.2
          simp
          exact this
      have hmm : m - (1 - fresh (some z)) = m - 1 := by simp [fresh]
      clear hnd HM HCn
      go_wp2_with fail
      go_region_law (fail)
      all_goals
        go_wp2_with fail
        go_loopg [8] (n1 + 2) (fun gk vi wr => ∃ (i : Nat) (t : Tr) (vs : Nat → Value), vi = .int .i64 i ∧ Hid (i < gk ∧ i ≤ n1) ∧ Hid (DRel w A t0 vs0 (m - 1) f key.data.toList g (n1 + 1) wr t vs i))
        case atStart => exact ⟨n1, _, vs0, rfl, Lib.hid ⟨by omega, Nat.le_refl _⟩, H0⟩
        case round =>
          obtain ⟨i, t, vs, rfl, HI, HD⟩ := hrel
          have ri := HD.out.row i (by have := HI.out.2; omega)
          have hmem := HD.out.chn.mem i (Nat.le_refl _)
          obtain ⟨q, HQ⟩ : ∃ q, Hid ((!(t.nm (f i)).isSome && decide ((t.ks (f i)).length < 2)) = q) := ⟨_, Lib.hid rfl⟩
          have HId := Lib.hid (idle_calls (HD.out.obj.tr.nod (f i) hmem) (HD.out.obj.tr.row (f i) hmem) q HQ)
          have hib : (i : Int) < (n1 : Int) + 1 := by have := HI.out.2; omega
          clear hmem H0
          by_cases hi0 : i = 0
          case pos =>
            subst hi0
            go_wp2_with fail
            go_ret
            have hd := HD.out
            rw [HGt.out, hnm, hmm]
            exact ⟨rfl, t, vs, hd.obj, hd.done (.inl rfl), hd.lk, hd.len, hd.fr, hd.ow⟩
          case neg =>
            have hpos : (0 : Int) < (i : Int) := by omega
            obtain ⟨j, HJ⟩ : ∃ j, Hid (i = j + 1) := ⟨i - 1, Lib.hid (by omega)⟩
            have hwj : IntKind.i64.wrap ((i : Int) - 1) = (j : Int) := by have := HJ.out; have := HI.out.2; rw [IntKind.wrap_i64]; omega
            have hjb : (j : Int) < (n1 : Int) + 1 := by have := HJ.out; omega
            have rj := HD.out.row j (by have := HI.out.2; have := HJ.out; omega)
            clear hi0
            cases q with
            | false =>
              go_wp2_with fail
              refine HId.out.mono ?_; rintro en wi ⟨rfl, rfl⟩
              go_wp2_with fail
              go_ret
              have hd := HD.out
              rw [HGt.out, hnm, hmm]
              refine ⟨rfl, t, vs, hd.obj, hd.done (.inr ?_), hd.lk, hd.len, hd.fr, hd.ow⟩
              have hq := HQ.out
              cases e : t.nm (f i) with
              | some z => exact .inl (by simp)
              | none =>
                rw [e] at hq
                simp at hq
                exact .inr hq
            | true =>
              go_wp2_with fail
              refine HId.out.mono ?_; rintro en wi ⟨rfl, rfl⟩
              have HDd := Lib.hid (HD.out.below ((Below.refl _ wr).drew))
              have HS : Hid (Calls Try.prog 53 #[.pointer (some ⟨f j, 0, none⟩), .pointer (some ⟨f i, 0, none⟩)] wr.drew fun e w' => e = .returned (.tuple #[]) ∧ ∃ t' vs', w'.cell? ⟨A, 2, none⟩ = some (.int .i64 t.B.length) ∧ w'.frozen? ⟨A, 2, none⟩ = false ∧
                  DRel w A t0 vs0 (m - 1) f key.data.toList g (n1 + 1) (w'.setCell ⟨A, 2, none⟩ (.int .i64 ((t.B.length : Int) - 1))) t' vs' j) := Lib.hid (by
                have hj := HJ.out
                subst hj
                exact HDd.out.skipC HQ.out)
              have hwl : IntKind.i64.wrap ((t.B.length : Int) - 1) = (t.B.length : Int) - 1 := by have := HD.out.len; rw [IntKind.wrap_i64]; omega
              clear HId HDd
              go_wp2_with fail
              go_region_with (go_at_call 53; refine HS.out.mono ?_; rintro en w3 ⟨rfl, t', vs', c2, z2, hd3⟩; have HD3 := Lib.hid hd3; clear hd3)
              all_goals
                go_wp2_with fail
                go_roundg (gk - 1)
                case measure => have := HI.out.1; omega
                case rel => exact ⟨j, t', vs', rfl, Lib.hid ⟨by have := HI.out.1; have := HJ.out; omega, by have := HI.out.2; have := HJ.out; omega⟩, HD3⟩
end Go.Proofs.Ytnmncjeplfkdpaa.Pb
