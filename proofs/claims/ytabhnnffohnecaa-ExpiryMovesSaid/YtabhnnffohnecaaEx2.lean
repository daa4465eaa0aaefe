/- Package expiry: Put. Conditions: an object as it lies; bounds. -/
import Derived.Test.YtabhnnffohnecaaEx1
import Derived.Test.YtabhnnffohnecaaWq
import Derived.Test.YtabhnnffohnecaaWs
namespace Go.Proofs.Ytabhnnffohnecaa.Ea
open Go.ChangeShapes Go.WideShapes Go.ChangeAt Go.RowKit Go.Maps Go.WideMaps
theorem Fr.drewN {S : Nat → Prop} (w : World) (n : Nat) : Fr S w (w.drewN n) := ⟨rfl, rfl, rfl, Nat.le_refl _, fun _ _ _ => rfl⟩
/-- What a call leaves: the object with other dues; what it hasn't, stands. -/
structure Mv (T M : Nat) (v : Value) (l : List En) (w : World) (M' : Nat) (v' : Value) (l' : List En) (D' : DataW Unit) (w' : World) : Prop where
  at_ : XA w' T M' v' l' D'
  fr : Fr (own T M v l) w w'
  own : ∀ x, own T M' v' l' x → own T M v l x ∨ w.heap.size ≤ x
theorem Mv.refl {w : World} {T M : Nat} {v : Value} {l : List En} {D : DataW Unit} (h : XA w T M v l D) : Mv T M v l w M v l D w := ⟨h, Fr.refl _ _, fun _ hx => .inl hx⟩
theorem setEn_get {l : List En} {j : Nat} {e : En} : ∀ k, k ≠ j → (l.set j e)[k]? = l[k]? := fun _ hk => List.getElem?_set_ne (Ne.symm hk)
/-- One due's time turned. -/
theorem DAt.turn {w w' : World} {T : Nat} {v : Value} {l : List En} (h : DAt w T v l) {j : Nat} (hj : j < l.length) {t : Int} (hw : w' = w.setCell ⟨l[j].b, 0, none⟩ (.int .i64 t)) : DAt w' T v (l.set j ⟨l[j].b, t, l[j].k⟩) := by
  have hm := List.getElem_mem hj
  have hb : (l.set j ⟨l[j].b, t, l[j].k⟩).map (·.b) = l.map (·.b) := by
    rw [List.map_set]
    have : l[j].b = (l.map (·.b))[j]'(by rw [List.length_map]; exact hj) := by simp
    rw [this, List.set_getElem_self]
  have hmem : ∀ x ∈ l.set j ⟨l[j].b, t, l[j].k⟩, ∃ y ∈ l, x.b = y.b := fun x hx => by
    have : x.b ∈ l.map (·.b) := hb ▸ List.mem_map_of_mem hx
    obtain ⟨y, hy, e⟩ := List.mem_map.1 this
    exact ⟨y, hy, e.symm⟩
  have hf : Fr (fun y => y = l[j].b) w w' := by rw [hw]; exact Fr.setCell (S := fun y => y = l[j].b) w ⟨l[j].b, 0, none⟩ rfl _
  have hot : ∀ a, a ≠ ⟨l[j].b, 0, none⟩ → w'.cell? a = w.cell? a := fun a ha => by rw [hw]; exact World.cell?_setCell_other _ _ _ _ ha.symm
  have hfz : ∀ a, w'.frozen? a = w.frozen? a := fun a => by rw [hw]; exact World.frozen?_setCell _ _ _ _
  refine ⟨⟨?_, fun i hi => ?_, by rw [hb]; exact h.hp.ne, fun x hx => ?_⟩, (hot _ (addr_ne (.inl (Ne.symm (h.tn _ hm))))).trans h.c0, fun i => (hfz _).trans (h.ft i), h.tv, fun x hx => ?_⟩
  · rw [hb]
    exact row_block h.hp.row fun g hg => hf.block g (row_lt h.hp.row hg) (fun e => h.hp.vn _ hm (by rw [hg, e]))
  · have hi' : i < l.length := by rw [List.length_set] at hi; exact hi
    by_cases e : i = j
    · subst e
      rw [List.getElem_set_self]
      have hd := h.hp.nd i hj
      refine ⟨?_, (hot _ (addr_ne (.inr (by decide)))).trans hd.c1, (hot _ (addr_ne (.inr (by decide)))).trans hd.c2, fun k => (hfz _).trans (hd.fz k)⟩
      rw [hw]; exact World.cell?_setCell_same _ _ _ hd.c0
    · rw [List.getElem_set_ne (Ne.symm e)]
      exact (h.hp.nd i hi').keep (hf.block _ (h.hp.blk (List.getElem_mem hi')) (fun e2 => e (h.hp.inj hi' hj e2)))
  · obtain ⟨y, hy, e⟩ := hmem x hx
    rw [e]; exact h.hp.vn y hy
  · obtain ⟨y, hy, e⟩ := hmem x hx
    rw [e]; exact h.tn y hy
theorem ownD_turn {T : Nat} {v : Value} {l : List En} {j : Nat} (hj : j < l.length) {t : Int} {x : Nat} : ownD T v (l.set j ⟨l[j].b, t, l[j].k⟩) x ↔ ownD T v l x := by
  have hb : (l.set j ⟨l[j].b, t, l[j].k⟩).map (·.b) = l.map (·.b) := by
    rw [List.map_set]
    have : l[j].b = (l.map (·.b))[j]'(by rw [List.length_map]; exact hj) := by simp
    rw [this, List.set_getElem_self]
  have hm : ∀ L : List En, (∃ e ∈ L, x = e.b) ↔ x ∈ L.map (·.b) := fun L => by
    rw [List.mem_map]
    constructor
    · rintro ⟨e, h1, h2⟩; exact ⟨e, h1, h2.symm⟩
    · rintro ⟨e, h1, h2⟩; exact ⟨e, h1, h2.symm⟩
  unfold ownD ownH
  rw [hm, hm, hb]
/-- Whatever a heap's call leaves of an object whose map stands. -/
theorem XA.of_dp {w w1 w' : World} {T M : Nat} {v : Value} {l l1 l' : List En} {D D' : DataW Unit} {S O : Nat → Prop} (_h : XA w T M v l D) (hw : Fr O w w1) (c1 : w1.cell? ⟨T, 0 + 1, none⟩ = some (.map (some M))) (hm1 : w1.ownsMap Try.prog 9 ptrE M l1.length D') (hSM : ¬ S M) (hd : DP T S w1 l' w') (hp : List.Perm l' l1) (hki : KI l1 D') (hkn : (l1.map (·.k)).Nodup) (hh : Hp (leB ltN) l' l1.length) (hSo : ∀ x, S x → own T M v l x ∨ w.heap.size ≤ x) :
    ∃ v', XA w' T M v' l' D' ∧ Fr (fun x => O x ∨ S x) w w' ∧ ∀ x, own T M v' l' x → own T M v l x ∨ w.heap.size ≤ x := by
  obtain ⟨v', h1, hf, hc, ho⟩ := hd
  have hln := hp.length_eq
  refine ⟨v', ⟨h1, (hc 1 (by decide)).trans c1, ?_, hki.same (look_perm hkn hp) hln, nodup_perm hkn hp, by rw [hln]; exact hh⟩, (hw.mono fun _ hx => .inl hx).trans (hf.mono fun _ hx => .inr hx), fun x hx => ?_⟩
  · rw [hln]
    exact map_same hm1 (hf.block M hm1.lt hSM)
  · rcases hx with rfl | hx
    · exact .inl (.inl rfl)
    · rcases ho x hx with h2 | h2
      · exact hSo x h2
      · exact .inr (Nat.le_trans hw.size h2)
set_option maxHeartbeats 4000000 in
set_option maxRecDepth 100000 in
theorem put_bad {w : World} (T : Nat) (k : ByteArray) (t : Int) (ht : t < 0 ∨ 4611686018427387904 < t) :
    Calls Try.prog 10 #[.pointer (some ⟨T, 0, none⟩), .string k, .int .i64 t] w fun e w' => e = .returned (.int .i64 111) ∧ w = w' := by
  by_cases h0 : t < 0
  case pos =>
    go_enter Try.func10, Try.ntmps10
    go_wp2_with fail
    go_ret
    exact ⟨rfl, rfl⟩
  case neg =>
    have h1 : 4611686018427387904 < t := by omega
    go_enter Try.func10, Try.ntmps10
    go_wp2_with fail
    go_ret
    exact ⟨rfl, rfl⟩
set_option maxHeartbeats 4000000 in
set_option maxRecDepth 100000 in
theorem put_some {w : World} {T M : Nat} {v : Value} {l : List En} {D : DataW Unit} (h : XA w T M v l D) (j : Nat) (hj : j < l.length) (hk : l[j].k.size ≤ maxLen) (hl : l.length ≤ 1000000) (t : Int) (h0 : ¬ t < 0) (h1 : ¬ 4611686018427387904 < t) :
    Calls Try.prog 10 #[.pointer (some ⟨T, 0, none⟩), .string l[j].k, .int .i64 t] w fun e w' => e = .returned (.int .i64 0) ∧ ∃ v' l', Mv T M v l w M v' l' D w' ∧ List.Perm l' (l.set j ⟨l[j].b, t, l[j].k⟩) := by
  have c1 := h.c1
  have hrun := h.look_run l[j].k hk
  rw [look_at h.kn hj] at hrun
  have n0 := (h.d.hp.nd j hj).c0
  have nf := (h.d.hp.nd j hj).fz 0
  have HH := Lib.hid h
  have HD := Lib.hid (h.d.turn hj (t := t) rfl)
  have HO : Hid (∀ x, ownD T v (l.set j ⟨l[j].b, t, l[j].k⟩) x ↔ ownD T v l x) := Lib.hid fun x => ownD_turn hj
  have HT : Hid (Dn (leB ltN) (l.set j ⟨l[j].b, t, l[j].k⟩) l.length j) := Lib.hid (h.hp.turned ordN (Nat.le_refl _) hj fun k hk => setEn_get k hk)
  have HK : Hid ((l.set j ⟨l[j].b, t, l[j].k⟩).map (·.k) = l.map (·.k)) := Lib.hid (by
    rw [List.map_set]
    have : l[j].k = (l.map (·.k))[j]'(by rw [List.length_map]; exact hj) := by simp
    rw [this, List.set_getElem_self])
  have HN2 : Hid ((w.setCell ⟨l[j].b, 0, none⟩ (.int .i64 t)).cell? ⟨l[j].b, 2, none⟩ = some (.int .i64 j)) := Lib.hid ((World.cell?_setCell_other _ _ _ _ (addr_ne (.inr (by decide)))).trans (h.d.hp.nd j hj).c2)
  have HC1 : Hid ((w.setCell ⟨l[j].b, 0, none⟩ (.int .i64 t)).cell? ⟨T, 0 + 1, none⟩ = some (.map (some M))) := Lib.hid ((World.cell?_setCell_other _ _ _ _ (addr_ne (.inr (by decide)))).trans h.c1)
  have HF1 : Hid (Fr (ownD T v l) w (w.setCell ⟨l[j].b, 0, none⟩ (.int .i64 t))) := Lib.hid (Fr.setCell (S := ownD T v l) w ⟨l[j].b, 0, none⟩ (.inr (.inr ⟨_, List.getElem_mem hj, rfl⟩)) _)
  have HLk : Hid (∀ k, look (l.set j ⟨l[j].b, t, l[j].k⟩) k = look l k) := Lib.hid fun k => by
    have e1 : (l.set j ⟨l[j].b, t, l[j].k⟩).map (fun e => (e.k, e.b)) = l.map (fun e => (e.k, e.b)) := by
      rw [List.map_set]
      have : ((l[j].k, l[j].b) : ByteArray × Nat) = (l.map (fun e => (e.k, e.b)))[j]'(by rw [List.length_map]; exact hj) := by simp
      show (l.map fun e => (e.k, e.b)).set j (l[j].k, l[j].b) = _
      rw [this, List.set_getElem_self]
    have e2 : ∀ L : List En, look L k = ((L.map (fun e => (e.k, e.b))).find? fun p => decide (p.1 = k)).map (·.2) := fun L => by
      unfold look
      rw [List.find?_map, Option.map_map]
      rfl
    rw [e2, e2, e1]
  have hsl : (l.set j ⟨l[j].b, t, l[j].k⟩).length = l.length := List.length_set
  clear h hk
  generalize l.set j ⟨l[j].b, t, l[j].k⟩ = l1 at *
  generalize l[j].k = k at *
  generalize l[j].b = b at *
  simp only [ptrO, Option.isSome_some] at hrun
  go_enter Try.func10, Try.ntmps10
  go_wp2_with fail
  generalize w.setCell ⟨b, 0, none⟩ (.int .i64 t) = W1 at *
  obtain ⟨F, hF⟩ : ∃ F : Nat → World, ∀ x, F x = W1.drewN x := ⟨fun x => W1.drewN x, fun _ => rfl⟩
  have f2 : ∀ x, (F x).cell? ⟨b, 2, none⟩ = some (.int .i64 j) := fun x => by rw [hF]; exact HN2.out
  have f3 : ∃ x, W1.drew = F x := ⟨1, by rw [hF]; rfl⟩
  have HFx := Lib.hid (fun x => fix_calls (ifaceD T (ownD T v l) (F x)) ordN (F x) l1 j (by omega) (by omega) ⟨v, by rw [hF]; exact HD.out.keep fun _ _ => rfl, Fr.refl _ _, fun _ _ => rfl, fun y hy => .inl ((HO.out y).1 hy)⟩ (by rw [hsl]; exact HT.out))
  have HF := Lib.hid hF
  clear hF hrun n0 nf c1
  refine wp_region_tail F 8 (by kernel_rfl) (by kernel_rfl) f3 ?_
  simp only [List.take_succ_cons, List.take_zero, List.drop_succ_cons, List.drop_zero]
  repeat (go_big_quiet_step (fail))
  refine wpQuiet_nil ?_
  intro x1
  have HF2 := Lib.hid (HFx.out x1)
  have HW : Hid (F x1 = W1.drewN x1) := Lib.hid (HF.out x1)
  clear f2 f3 HF HFx
  generalize F x1 = W2 at *
  go_wp2_with fail
  refine HF2.out.mono ?_; rintro en w3 ⟨rfl, l', hP3, hpm3, hh3⟩
  have HZ := Lib.hid (And.intro hP3 (And.intro hpm3 hh3))
  clear hP3 hpm3 hh3 HF2
  go_wp2_with fail
  go_ret
  obtain ⟨hP3, hpm3, hh3⟩ := HZ.out
  have hw12 : Fr (ownD T v l) w W2 := HF1.out.trans (by rw [HW.out]; exact Fr.drewN _ _)
  have hc1 : W2.cell? ⟨T, 0 + 1, none⟩ = some (.map (some M)) := by rw [HW.out]; exact HC1.out
  have hm2 : W2.ownsMap Try.prog 9 ptrE M l1.length D := by
    rw [hsl]
    exact map_same HH.out.map (hw12.block M HH.out.map.lt HH.out.mn)
  obtain ⟨v', h1, h2, h3⟩ := HH.out.of_dp hw12 hc1 hm2 HH.out.mn hP3 hpm3 (HH.out.ki.same HLk.out hsl) (by rw [HK.out]; exact HH.out.kn) hh3 fun x hx => .inl (.inr hx)
  exact ⟨rfl, v', l', ⟨h1, h2.mono fun x hx => .inr (hx.elim id id), h3⟩, hpm3⟩
set_option maxHeartbeats 4000000 in
set_option maxRecDepth 100000 in
theorem put_none {w : World} {T M : Nat} {v : Value} {l : List En} {D : DataW Unit} (h : XA w T M v l D) (k : ByteArray) (hk : k.size ≤ maxLen) (hl : l.length ≤ 1000000) (hlk : look l k = none) (t : Int) (h0 : ¬ t < 0) (h1 : ¬ 4611686018427387904 < t) :
    Calls Try.prog 10 #[.pointer (some ⟨T, 0, none⟩), .string k, .int .i64 t] w fun e w' => e = .returned (.int .i64 0) ∧ ∃ v' l' D', Mv T M v l w M v' l' D' w' ∧ List.Perm l' (l ++ [⟨w.heap.size, t, k⟩]) := by
  have c1 := h.c1
  have hrun := h.look_run k hk
  rw [hlk] at hrun
  have HK := Lib.hid hk
  have HH := Lib.hid h
  have HN := Lib.hid hlk
  have hml : Hid (l.length < maxLen) := Lib.hid (by unfold maxLen; omega)
  clear h hk hlk
  simp only [ptrO, Option.isSome_none] at hrun
  have hbb := bbox (w := w) (.cells #[.int .i64 t, .string k, .int .i64 0] 60)
  have b1 : (w.alloc (.cells #[.int .i64 t, .string k, .int .i64 0] 60)).cell? ⟨T, 0 + 1, none⟩ = some (.map (some M)) := (hbb.cell (p := ⟨T, 0 + 1, none⟩) HH.out.d.lt).trans c1
  have HB := Lib.hid hbb
  have HLo : Hid (∀ i, (w.alloc (.cells #[.int .i64 t, .string k, .int .i64 0] 60)).cell? ⟨w.heap.size, i, none⟩ = #[.int .i64 t, .string k, .int .i64 0][i]?) := Lib.hid fun i => World.cell?_alloc_new w _ _ i
  have HFz : Hid (∀ i, (w.alloc (.cells #[.int .i64 t, .string k, .int .i64 0] 60)).frozen? ⟨w.heap.size, i, none⟩ = false) := Lib.hid fun i => by simp
  have HSz : Hid ((w.alloc (.cells #[.int .i64 t, .string k, .int .i64 0] 60)).heap.size = w.heap.size + 1) := Lib.hid (by simp)
  clear hbb
  have hmap := Lib.hid (map_same HH.out.map (HB.out.block M HH.out.map.lt))
  go_enter Try.func10, Try.ntmps10
  go_wp2_with (at_mapUpdate; refine wpList_mapUpdate_own _ rfl _ _ _ _ rfl 9 61 keyed Try.underlying54 ptrE M l.length D rfl hmap.out hml.out _ _ _ rfl rfl (hkey HK.out) (dat (some w.heap.size)) [] rfl ?_)
  intro w2 hm2 hg2
  have hF2 : Fr (fun y => y = M) w w2 := (Fr.of_below HB.out).trans (Fr.grown hg2 fun i hi => (Option.some.inj hi).symm)
  have hd2 : DAt w2 T v l := HH.out.d.keep fun x hx => hF2.block x (HH.out.d.own_lt hx) (fun e => HH.out.mn (e ▸ hx))
  have ex : w2.heap[w.heap.size]? = (w.alloc (.cells #[.int .i64 t, .string k, .int .i64 0] 60)).heap[w.heap.size]? := hg2.block _ (by rw [HSz.out]; omega) (fun e => by have h1 : M = w.heap.size := (by injection e with e; exact e.symm); have := HH.out.map.lt; omega)
  have ec : ∀ i, w2.cell? ⟨w.heap.size, i, none⟩ = #[.int .i64 t, .string k, .int .i64 0][i]? := fun i => (World.cell?_of_block (a := ⟨w.heap.size, i, none⟩) ex).trans (HLo.out i)
  have hlo : LoneE w2 ⟨w.heap.size, t, k⟩ := ⟨ec 0, ec 1, ⟨_, ec 2⟩, fun i => (World.frozen?_of_block (a := ⟨w.heap.size, i, none⟩) ex).trans (HFz.out i)⟩
  have hpre : DP T (fun y => ownD T v l y ∨ y = w.heap.size) w2 l w2 := ⟨v, hd2, Fr.refl _ _, fun _ _ => rfl, fun y hy => .inl (.inl hy)⟩
  have hne : ∀ x ∈ l, x.b ≠ w.heap.size := fun x hx e => by have := HH.out.d.hp.blk hx; omega
  have hTne : w.heap.size ≠ T := fun e => by have := HH.out.d.lt; omega
  have HP := Lib.hid (push_calls (ifaceD T (fun y => ownD T v l y ∨ y = w.heap.size) w2) ordN w2 l ⟨w.heap.size, t, k⟩ _ (by omega) (pushD hpre ⟨w.heap.size, t, k⟩ (by omega) hlo (.inr rfl) hTne (fun v' hv' e => by
    have e2 : v' = v := by have := hv'.c0; rw [hd2.c0] at this; exact (Option.some.inj this).symm
    rw [e2] at e
    have := row_lt HH.out.d.hp.row e
    exact absurd this (Nat.lt_irrefl _)) hne) HH.out.hp)
  have H2 := Lib.hid (And.intro hF2 (And.intro hm2 hd2))
  have hc12 : w2.cell? ⟨T, 0 + 1, none⟩ = some (.map (some M)) := (World.cell?_of_block (a := ⟨T, 1, none⟩) (hF2.block T HH.out.d.lt (fun e => HH.out.mn (e ▸ .inl rfl)))).trans HH.out.c1
  have HC := Lib.hid hc12
  clear hF2 hm2 hg2 hd2 ex ec hlo hpre hne hTne hc12 b1 c1 hrun
  unfold ptr at HP
  go_wp2_with fail
  refine HP.out.mono ?_; rintro en w3 ⟨rfl, l', hP3, hpm3, hh3⟩
  have HZ := Lib.hid (And.intro hP3 (And.intro hpm3 hh3))
  clear hP3 hpm3 hh3 HP
  go_wp2_with fail
  go_ret
  obtain ⟨hP3, hpm3, hh3⟩ := HZ.out
  obtain ⟨hF2, hm2, -⟩ := H2.out
  have hmn := HH.out.mn
  have hkn2 : ((l ++ [(⟨w.heap.size, t, k⟩ : En)]).map (·.k)).Nodup := by
    rw [List.map_append]
    refine List.nodup_append.2 ⟨HH.out.kn, by simp, fun x hx y hy e => ?_⟩
    obtain ⟨z, hz, rfl⟩ := List.mem_map.1 hx
    have hy : y = k := by simpa using hy
    exact look_none.1 HN.out z hz (e.trans hy)
  have hki := HH.out.ki.put (e := ⟨w.heap.size, t, k⟩) HN.out
  have hm2' := own_norm hm2
  have hsz := hki.sz
  rw [hsz] at hm2'
  obtain ⟨v', h1, h2, h3⟩ := HH.out.of_dp hF2 HC.out hm2' (fun e => by
    rcases e with e | e
    · exact hmn e
    · have := HH.out.map.lt; omega) hP3 hpm3 hki hkn2 (by rw [List.length_append]; exact hh3) fun x hx => by
      rcases hx with hx | hx
      · exact .inl (.inr hx)
      · exact .inr (by omega)
  refine ⟨rfl, v', l', _, ⟨h1, h2.mono2 fun x hxl hx => ?_, h3⟩, hpm3⟩
  rcases hx with hx | hx | hx
  · exact .inl hx
  · exact .inr hx
  · omega
end Go.Proofs.Ytabhnnffohnecaa.Ea
