/- Package expiry: Drop, Next, New, Clear. Conditions: an object as it lies; bounds. -/
import Derived.Test.YtabhnnffohnecaaEx2
namespace Go.Proofs.Ytabhnnffohnecaa.Ea
open Go.ChangeShapes Go.WideShapes Go.ChangeAt Go.RowKit Go.Maps Go.WideMaps
set_option maxHeartbeats 4000000 in
set_option maxRecDepth 100000 in
theorem xdrop_some {w : World} {T M : Nat} {v : Value} {l : List En} {D : DataW Unit} (h : XA w T M v l D) (j : Nat) (hj : j < l.length) (hk : l[j].k.size ≤ maxLen) (hl : l.length ≤ 1000000) :
    Calls Try.prog 14 #[.pointer (some ⟨T, 0, none⟩), .string l[j].k] w fun e w' => e = .returned (.bool true) ∧ ∃ v' l' D', Mv T M v l w M v' l' D' w' ∧ List.Perm (l' ++ [l[j]]) l := by
  have c1 := h.c1
  have hrun := h.look_run l[j].k hk
  rw [look_at h.kn hj] at hrun
  have HN2 := Lib.hid (h.d.hp.nd j hj).c2
  have HH := Lib.hid h
  have HK := Lib.hid hk
  have HSM : Hid (¬ ownD T v l M) := Lib.hid h.mn
  obtain ⟨n, hn⟩ : ∃ n, l.length = n + 1 := ⟨l.length - 1, by omega⟩
  have HRm : Hid (∀ W, Fr (fun _ => False) w W → Calls Try.prog 25 #[.iface 64 (.pointer (some ⟨T, 0, none⟩)), .int .i64 j] W fun e w' => ∃ l', e = .returned (.iface 61 (ptr l[j].b)) ∧ RD T (ownD T v l) W l[j] l' e w' ∧ List.Perm (l' ++ [l[j]]) l ∧ Hp (leB ltN) l' n) := Lib.hid fun W hW => remove_calls (val := fun a => .iface 61 (ptr a.b)) (ifaceD T (ownD T v l) W) ordN (popD T (ownD T v l) W) (fun _ _ _ _ h => h.1) W l n j hn (by omega) hj ⟨v, h.d.keep fun x hx => hW.block x (h.d.own_lt hx) id, Fr.refl _ _, fun _ _ => rfl, fun y hy => .inl hy⟩ (by have := h.hp; rw [hn] at this; exact this)
  have HKi : Hid (∀ l', List.Perm (l' ++ [l[j]]) l → KI l' (D.del (klit l[j].k)) ∧ (l'.map (·.k)).Nodup) := Lib.hid fun l' hp => ⟨h.ki.drop h.kn hp, by
    have := nodup_perm h.kn hp
    rw [List.map_append] at this
    exact (List.nodup_append.1 this).1⟩
  have HLo : Hid (∀ W, LoneE W l[j] → W.cell? ⟨l[j].b, 1, none⟩ = some (.string l[j].k) ∧ W.cell? ⟨l[j].b, 0 + 1, none⟩ = some (.string l[j].k)) := Lib.hid fun W hW => ⟨hW.c1, hW.c1⟩
  clear h hk
  generalize l[j] = e at *
  simp only [ptrO, Option.isSome_some] at hrun
  go_enter Try.func14, Try.ntmps14
  go_wp2_with fail
  obtain ⟨F, hF⟩ : ∃ F : Nat → World, ∀ x, F x = w.drewN x := ⟨fun x => w.drewN x, fun _ => rfl⟩
  have f2 : ∀ x, (F x).cell? ⟨e.b, 2, none⟩ = some (.int .i64 j) := fun x => by rw [hF]; exact HN2.out
  have f3 : ∃ x, w.drew = F x := ⟨1, by rw [hF]; rfl⟩
  have HF := Lib.hid hF
  clear hF hrun c1
  refine wp_region_tail F 8 (by kernel_rfl) (by kernel_rfl) f3 ?_
  simp only [List.take_succ_cons, List.take_zero, List.drop_succ_cons, List.drop_zero]
  repeat (go_big_quiet_step (fail))
  refine wpQuiet_nil ?_
  intro x1
  have HF2 := Lib.hid (HRm.out (F x1) (by rw [HF.out]; exact Fr.drewN _ _))
  have HW : Hid (F x1 = w.drewN x1) := Lib.hid (HF.out x1)
  clear f2 f3 HF HRm HN2
  generalize F x1 = W2 at *
  have hta := taP (ptr e.b)
  unfold ptr at HF2 hta
  go_wp2_with fail
  refine HF2.out.mono ?_; rintro en w3 ⟨l', rfl, ⟨-, hP3, hlo3⟩, hpm3, hh3⟩
  have hw2 : Fr (fun _ => False) w W2 := by rw [HW.out]; exact Fr.drewN _ _
  have hc3 : w3.cell? ⟨T, 0 + 1, none⟩ = some (.map (some M)) := by
    obtain ⟨v3, -, -, hc, -⟩ := hP3
    rw [hc 1 (by decide)]
    exact (World.cell?_of_block (a := ⟨T, 1, none⟩) (hw2.block T HH.out.d.lt id)).trans HH.out.c1
  have hm3 : w3.ownsMap Try.prog 9 ptrE M l.length D := by
    obtain ⟨v3, -, hf, -, -⟩ := hP3
    have h1 := map_same HH.out.map (hw2.block M HH.out.map.lt id)
    exact map_same h1 (hf.block M h1.lt HSM.out)
  have HM3 := Lib.hid hm3
  obtain ⟨k1, -⟩ := HLo.out w3 hlo3
  have HZ := Lib.hid (And.intro hP3 (And.intro hpm3 hh3))
  have HW2 := Lib.hid hw2
  have HC3 := Lib.hid hc3
  clear hP3 hlo3 hpm3 hh3 HF2 hw2 hm3
  go_wp2_with fail
  obtain ⟨G, hG⟩ : ∃ F : Nat → World, ∀ x, F x = w3.drewN x := ⟨fun x => w3.drewN x, fun _ => rfl⟩
  have g1 : ∀ x, (G x).cell? ⟨e.b, 1, none⟩ = some (.string e.k) := fun x => by rw [hG]; exact k1
  have g2 : ∀ x, (G x).cell? ⟨T, 0 + 1, none⟩ = some (.map (some M)) := fun x => by rw [hG]; exact hc3
  have g3 : ∃ x, w3.drew = G x := ⟨1, by rw [hG]; rfl⟩
  have HG := Lib.hid hG
  have HMx : Hid (∀ x, (G x).ownsMap Try.prog 9 ptrE M l.length D) := Lib.hid fun x => by rw [hG]; exact map_same HM3.out rfl
  clear hG k1 hc3
  refine wp_region_tail G 9 (by kernel_rfl) (by kernel_rfl) g3 ?_
  simp only [List.take_succ_cons, List.take_zero, List.drop_succ_cons, List.drop_zero]
  repeat (go_big_quiet_step (fail))
  refine wpQuiet_nil ?_
  intro x2
  have hm4 := Lib.hid (HMx.out x2)
  have HW4 : Hid (G x2 = w3.drewN x2) := Lib.hid (HG.out x2)
  clear g1 g2 g3 HG HMx
  generalize G x2 = W4 at *
  go_wp2_with (at_delete; refine wpList_delete_own _ rfl _ _ _ _ rfl 61 keyed Try.underlying54 ptrE M l.length D rfl hm4.out _ _ rfl (hkey HK.out) ?_)
  intro w5 hm5 hg5
  have H5 := Lib.hid (And.intro hm5 hg5)
  clear hm5 hg5
  go_wp2_with fail
  go_ret
  obtain ⟨hm5, hg5⟩ := H5.out
  obtain ⟨⟨v3, hd3, hf3, hcc3, ho3⟩, hpm3, hh3⟩ := HZ.out
  obtain ⟨hki, hkn⟩ := HKi.out l' hpm3
  have hf5 : Fr (fun y => y = M) w3 w5 := (show Fr (fun y => y = M) w3 W4 by rw [HW4.out]; exact Fr.drewN _ _).trans (Fr.grown hg5.grown fun i hi => (Option.some.inj hi).symm)
  have hd5 : DAt w5 T v3 l' := hd3.keep fun x hx => hf5.block x (hd3.own_lt hx) (fun e2 => by
    rcases ho3 x hx with h1 | h1
    · exact HSM.out (e2 ▸ h1)
    · have h2 := HH.out.map.lt
      have h3 := HW2.out.size
      omega)
  have hpl := hpm3.length_eq
  rw [List.length_append] at hpl
  have hll : l'.length = n := by simp at hpl; omega
  have hmn := own_norm hm5
  rw [hki.sz] at hmn
  have hTM : T ≠ M := fun e2 => HSM.out (e2 ▸ .inl rfl)
  refine ⟨rfl, v3, l', _, ⟨⟨hd5, (World.cell?_of_block (a := ⟨T, 1, none⟩) (hf5.block T hd3.lt hTM)).trans HC3.out, hmn, hki, hkn, by rw [hll]; exact hh3⟩, ?_, fun x hx => ?_⟩, hpm3⟩
  · exact ((HW2.out.mono fun _ hx => hx.elim).trans (hf3.mono fun x hx => .inr hx)).trans (hf5.mono fun x hx => .inl hx)
  · rcases hx with hx | hx
    · exact .inl (.inl hx)
    · rcases ho3 x hx with h1 | h1
      · exact .inl (.inr h1)
      · have h3 := HW2.out.size
        exact .inr (by omega)
set_option maxHeartbeats 4000000 in
set_option maxRecDepth 100000 in
theorem xdrop_none {w : World} {T M : Nat} {v : Value} {l : List En} {D : DataW Unit} (h : XA w T M v l D) (k : ByteArray) (hk : k.size ≤ maxLen) (hl : look l k = none) :
    Calls Try.prog 14 #[.pointer (some ⟨T, 0, none⟩), .string k] w fun e w' => e = .returned (.bool false) ∧ w = w' := by
  have c1 := h.c1
  have hrun := h.look_run k hk
  rw [hl] at hrun
  clear h hl
  simp only [ptrO, Option.isSome_none] at hrun
  go_enter Try.func14, Try.ntmps14
  go_wp2_with fail
  go_ret
  exact ⟨rfl, rfl⟩
theorem new_at (w : World) (N : Nat) (hN : N = w.heap.size) : XA ((w.alloc (.map #[] 0)).alloc (.cells #[.slice none 0 0, .map (some N)] 58)) (N + 1) N (.slice none 0 0) [] (.map []) ∧
    Below w.heap.size w ((w.alloc (.map #[] 0)).alloc (.cells #[.slice none 0 0, .map (some N)] 58)) := by
  have m2 := World.ownsMap_made w Try.prog 9 ptrE
  have s2 : (w.alloc (.map #[] 0)).heap.size = w.heap.size + 1 := by simp
  have B2 := bbox (w := w) (.map #[] 0)
  generalize w.alloc (.map #[] 0) = W2 at *
  have c3 := fun j => World.cell?_alloc_new W2 #[.slice none 0 0, .map (some N)] 58 j
  have f3 : ∀ j, (W2.alloc (.cells #[.slice none 0 0, .map (some N)] 58)).frozen? ⟨W2.heap.size, j, none⟩ = false := fun j => by simp
  have B3 := bbox (w := W2) (.cells #[.slice none 0 0, .map (some N)] 58)
  generalize W2.alloc (.cells #[.slice none 0 0, .map (some N)] 58) = W3 at *
  rw [s2, ← hN] at c3 f3
  rw [← hN] at m2
  refine ⟨⟨⟨⟨World.ownsRow_nil _ _ _ _, fun i hi => absurd hi (Nat.not_lt_zero _), List.nodup_nil, fun e he => by cases he⟩, c3 0, f3, by simp [Value.ownBlock], fun e he => by cases he⟩, c3 1, map_same m2 (B3.block _ (by omega)), KI.new, List.nodup_nil, fun k h0 hk => absurd hk (Nat.not_lt_zero _)⟩, bstep B2 B3⟩
set_option maxHeartbeats 4000000 in
set_option maxRecDepth 100000 in
theorem new_calls (w : World) :
    Calls Try.prog 8 #[] w fun e w' => ∃ T M, e = .returned (.pointer (some ⟨T, 0, none⟩)) ∧ XA w' T M (.slice none 0 0) [] (.map []) ∧ Below w.heap.size w w' ∧ w.heap.size ≤ T ∧ w.heap.size ≤ M := by
  have hmm := @run_makeMap Try.prog
  go_enter Try.func8, Try.ntmps8
  go_wp2_with fail
  go_ret
  obtain ⟨h1, h2⟩ := new_at w w.heap.size rfl
  exact ⟨_, _, rfl, h1, h2, by omega, Nat.le_refl _⟩
set_option maxHeartbeats 4000000 in
set_option maxRecDepth 100000 in
theorem clear_calls {w : World} {T M : Nat} {v : Value} {l : List En} {D : DataW Unit} (h : XA w T M v l D) :
    Calls Try.prog 12 #[.pointer (some ⟨T, 0, none⟩)] w fun e w' => e = .returned (.tuple #[]) ∧ ∃ M', Mv T M v l w M' (.slice none 0 0) [] (.map []) w' := by
  have HN := Lib.hid (new_calls w)
  have HH := Lib.hid h
  clear h
  go_enter Try.func12, Try.ntmps12
  go_wp2_with fail
  refine HN.out.mono ?_; rintro en w1 ⟨T2, M2, rfl, h2, hb, hT2, hM2⟩
  have c0 := h2.d.c0
  have c1 := h2.c1
  have hh := HH.out.below hb
  have d0 := hh.d.c0
  have d1 := hh.c1
  have f0 := hh.d.ft 0
  have f1 := hh.d.ft 1
  have H2 := Lib.hid h2
  have H1 := Lib.hid hh
  have HB := Lib.hid hb
  have HO := Lib.hid (And.intro hT2 hM2)
  obtain ⟨a, c, rfl, -, -, -⟩ := hh.d.hp.slice
  clear h2 hh hb hT2 hM2 HN
  go_wp2_with fail
  go_end0
  have hTl := HH.out.d.lt
  have hs := set2_of w1 (a := ⟨T, 0, none⟩) (b := ⟨T, 1, none⟩) (u := .slice none 0 0) (v := .map (some M2)) (.inl (addr_ne (.inr (by decide)))) d0 d1
  generalize (w1.setCell ⟨T, 0, none⟩ (.slice none 0 0)).setCell ⟨T, 1, none⟩ (.map (some M2)) = w2 at *
  have hM := HO.out.2
  refine ⟨rfl, M2, ⟨⟨⟨World.ownsRow_nil _ _ _ _, fun i hi => absurd hi (Nat.not_lt_zero _), List.nodup_nil, fun e he => by cases he⟩, hs.ca, fun j => (hs.fz _).trans (H1.out.d.ft j), by simp [Value.ownBlock], fun e he => by cases he⟩, hs.cb, map_same H2.out.map (hs.fr.block M2 H2.out.map.lt (fun e => by rcases e with e | e <;> (simp at e; omega))), KI.new, List.nodup_nil, fun k h0 hk => absurd hk (Nat.not_lt_zero _)⟩, ?_, fun x hx => ?_⟩
  · exact (Fr.of_below HB.out).trans (hs.fr.mono fun i e => by rcases e with e | e <;> exact .inr (.inl e))
  · rcases hx with rfl | rfl | hx | ⟨y, hy, -⟩
    · exact .inr hM
    · exact .inl (.inr (.inl rfl))
    · cases hx
    · cases hy
set_option maxHeartbeats 4000000 in
set_option maxRecDepth 100000 in
theorem next_none {w : World} {T M : Nat} {v : Value} {D : DataW Unit} (h : XA w T M v [] D) :
    Calls Try.prog 9 #[.pointer (some ⟨T, 0, none⟩)] w fun e w' => e = .returned (.tuple #[.agg #[.int .i64 0, .string ⟨#[]⟩], .bool false]) ∧ Below w.heap.size w w' := by
  have c0 := h.d.c0
  obtain ⟨a, c, rfl, -, -, -⟩ := h.d.hp.slice
  have b0 := fun O => (bbox (w := w) O).cell (p := ⟨T, 0, none⟩) h.d.lt |>.trans c0
  clear h
  go_enter Try.func9, Try.ntmps9
  go_wp2_with fail
  refine bodyPost_ret (v := .tuple #[.agg #[.int .i64 0, .string ⟨#[]⟩], .bool false]) ?_ rfl ⟨rfl, ?_⟩
  · rw [results_cell_tmp rfl]
    simp [asAddr, Result.andThen, go_sem]
  · exact bbox _
set_option maxHeartbeats 4000000 in
set_option maxRecDepth 100000 in
theorem next_some {w : World} {T M : Nat} {v : Value} {l : List En} {D : DataW Unit} (h : XA w T M v l D) (hl : 0 < l.length) :
    Calls Try.prog 9 #[.pointer (some ⟨T, 0, none⟩)] w fun e w' => e = .returned (.tuple #[.agg #[.int .i64 l[0].t, .string l[0].k], .bool true]) ∧ Below w.heap.size w w' := by
  have c0 := h.d.c0
  have n0 := (h.d.hp.nd 0 hl).c0
  have n1 := (h.d.hp.nd 0 hl).c1
  obtain ⟨a, c, rfl, -, -, hat⟩ := h.d.hp.slice
  obtain ⟨g, rfl, d0, -⟩ := hat 0 hl
  have hb := fun O => bbox (w := w) O
  have b0 := fun O => (hb O).cell (p := ⟨T, 0, none⟩) h.d.lt |>.trans c0
  have bn0 := fun O => (hb O).cell (p := ⟨l[0].b, 0, none⟩) (World.block_lt_of_cell? w _ n0) |>.trans n0
  have bn1 := fun O => (hb O).cell (p := ⟨l[0].b, 1, none⟩) (World.block_lt_of_cell? w _ n1) |>.trans n1
  have bd0 := fun O => (hb O).cell (p := ⟨g, 0, none⟩) (World.block_lt_of_cell? w _ d0) |>.trans d0
  have hne : ((l.length : Int) == 0) = false := beq_false_of_ne (by omega)
  have hlI : (0 : Int) < (l.length : Int) := by omega
  clear h hat hb
  unfold ptr at bd0
  generalize l[0].b = b at *
  generalize l[0].t = t at *
  generalize l[0].k = k at *
  generalize l.length = n at *
  go_enter Try.func9, Try.ntmps9
  go_wp2_with fail
  refine bodyPost_ret (v := .tuple #[.agg #[.int .i64 t, .string k], .bool true]) ?_ rfl ⟨rfl, ?_⟩
  · rw [results_cell_tmp rfl]
    simp [asAddr, Result.andThen, go_sem]
  · exact bbox _
end Go.Proofs.Ytabhnnffohnecaa.Ea
