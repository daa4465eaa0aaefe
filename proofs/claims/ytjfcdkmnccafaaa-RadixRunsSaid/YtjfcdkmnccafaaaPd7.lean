/- Drop. Conditions: the tree as it lies; bounds; a key that is there is counted. -/
import Derived.Test.YtjfcdkmnccafaaaPd6
import Derived.Test.YtjfcdkmnccafaaaPbf
import Derived.Sort.LoopGhostIn
namespace Go.Proofs.Ytjfcdkmnccafaaa.Pb
open Go.ChangeShapes Go.WideShapes Go.ChangeAt Go.RowKit
/-- Between two rounds. -/
structure DRel (w : World) (A : Nat) (t0 : Tr) (vs0 : Nat → Value) (m1 : Nat) (f : Nat → Nat) (K : T) (g n : Nat) (wr : World) (t : Tr) (vs : Nat → Value) (i : Nat) : Prop where
  obj : TObj wr A t vs m1
  chn : Chn t f i
  mn : Mn t (some (f i))
  lk : ∀ K', look t K' = if K' = K then none else look t0 K'
  len : t.B.length ≤ t0.B.length
  fr : Fr (own A t0 vs0) w wr
  ow : ∀ y, own A t vs y → own A t0 vs0 y ∨ w.heap.size ≤ y
  row : ∀ j, j < n → wr.cell? ⟨g, j, none⟩ = some (.pointer (some ⟨f j, 0, none⟩))
  gn : ¬ own A t vs g
  gl : g < wr.heap.size
theorem DRel.done {w : World} {A : Nat} {t0 : Tr} {vs0 : Nat → Value} {m1 : Nat} {f : Nat → Nat} {K : T} {g n : Nat} {wr : World} {t : Tr} {vs : Nat → Value} {i : Nat} (h : DRel w A t0 vs0 m1 f K g n wr t vs i) (hi : i = 0 ∨ t.nm (f i) ≠ none ∨ 2 ≤ (t.ks (f i)).length) : Mn t none := fun c hc hr _ => by
  by_cases hcf : c = f i
  · subst hcf
    rcases hi with rfl | hi
    · exact absurd h.chn.rt hr
    · exact hi
  · exact h.mn c hc hr (fun e => hcf (by injection e))
theorem DRel.step {w : World} {A : Nat} {t0 : Tr} {vs0 : Nat → Value} {m1 : Nat} {f : Nat → Nat} {K : T} {g n : Nat} {wr W : World} {t : Tr} {vs vs' : Nat → Value} {i : Nat} {l : List Nat} (h : DRel w A t0 vs0 m1 f K g n wr t vs (i + 1)) (hn : t.nm (f (i + 1)) = none)
    (hok : Ok (t.skip (f i) (f (i + 1)) l)) (hT : TObj W A (t.skip (f i) (f (i + 1)) l) vs' m1) (hF : Fr (own A t vs) wr W) (hO : ∀ y, own A (t.skip (f i) (f (i + 1)) l) vs' y → own A t vs y ∨ wr.heap.size ≤ y) :
    DRel w A t0 vs0 m1 f K g n W (t.skip (f i) (f (i + 1)) l) vs' i := by
  have hx := h.chn.mem (i + 1) (Nat.le_refl _)
  refine ⟨hT, h.chn.skip h.obj.ok l, h.mn.skip, fun K' => by rw [look_skip h.obj.ok hok hx hn]; exact h.lk K', ?_, h.fr.trans2 hF (fun y hy hh => ?_), fun y hy => ?_, fun j hj => ?_, fun e => ?_, Nat.lt_of_lt_of_le h.gl hF.size⟩
  · have h1 : (t.skip (f i) (f (i + 1)) l).B.length ≤ t.B.length := List.length_filter_le _ _
    have := h.len
    omega
  · rcases h.ow y hh with e | e
    · exact e
    · omega
  · rcases hO y hy with e | e
    · exact h.ow y e
    · exact .inr (by have := h.fr.size; omega)
  · exact (World.cell?_of_block (a := ⟨g, j, none⟩) (hF.block g h.gl h.gn)).trans (h.row j hj)
  · rcases hO g e with e | e
    · exact h.gn e
    · have := h.gl; omega
theorem DRel.below {w : World} {A : Nat} {t0 : Tr} {vs0 : Nat → Value} {m1 : Nat} {f : Nat → Nat} {K : T} {g n : Nat} {wr W : World} {t : Tr} {vs : Nat → Value} {i : Nat} (h : DRel w A t0 vs0 m1 f K g n wr t vs i) (hb : Below wr.heap.size wr W) : DRel w A t0 vs0 m1 f K g n W t vs i :=
  ⟨h.obj.below hb, h.chn, h.mn, h.lk, h.len, h.fr.trans2 (Fr.of_below (S := fun _ => False) hb) (fun _ _ h => h.elim), h.ow, fun j hj => (hb.cell (p := ⟨g, j, none⟩) h.gl).trans (h.row j hj), h.gn, Nat.lt_of_lt_of_le h.gl hb.size⟩
theorem DRel.skipC {w : World} {A : Nat} {t0 : Tr} {vs0 : Nat → Value} {m1 : Nat} {f : Nat → Nat} {K : T} {g n : Nat} {wr : World} {t : Tr} {vs : Nat → Value} {i : Nat} (h : DRel w A t0 vs0 m1 f K g n wr t vs (i + 1)) (hq : (!(t.nm (f (i + 1))).isSome && decide ((t.ks (f (i + 1))).length < 2)) = true) :
    Calls Try.prog 26 #[.pointer (some ⟨f i, 0, none⟩), .pointer (some ⟨f (i + 1), 0, none⟩)] wr fun e w' => e = .returned (.tuple #[]) ∧ ∃ t' vs', w'.cell? ⟨A, 2, none⟩ = some (.int .i64 t.B.length) ∧ w'.frozen? ⟨A, 2, none⟩ = false ∧
      DRel w A t0 vs0 m1 f K g n (w'.setCell ⟨A, 2, none⟩ (.int .i64 ((t.B.length : Int) - 1))) t' vs' i := by
  simp only [Bool.and_eq_true, Bool.not_eq_true', decide_eq_true_eq] at hq
  have hn : t.nm (f (i + 1)) = none := by
    cases e : t.nm (f (i + 1)) with
    | none => rfl
    | some z => rw [e] at hq; cases hq.1
  refine (skip_calls h.obj (h.chn.mem i (by omega)) (h.chn.kid i (by omega)) (by omega)).mono ?_
  rintro e w' ⟨rfl, l, vs', -, hok, h2, h3, hT, hF, hO⟩
  exact ⟨rfl, _, vs', h2, h3, h.step hn hok hT hF hO⟩
set_option maxHeartbeats 8000000 in
set_option maxRecDepth 100000 in
theorem drop_calls {w : World} {A : Nat} {t0 : Tr} {vs0 : Nat → Value} {m : Nat} (h : TObj w A t0 vs0 m) (key : ByteArray) (hm0 : Mn t0 none) (hK : key.size ≤ 1000000) (hN : t0.B.length ≤ 1000000) (hm : m ≤ 1000000) (hm1 : look t0 key.data.toList ≠ none → 1 ≤ m) :
    Calls Try.prog 9 #[.pointer (some ⟨A, 0, none⟩), .string key] w fun e w' => e = .returned (.bool (look t0 key.data.toList).isSome) ∧ ∃ t vs, TObj w' A t vs (m - (1 - fresh (look t0 key.data.toList))) ∧ Mn t none ∧ (∀ K, look t K = if K = key.data.toList then none else look t0 K) ∧
      t.B.length ≤ t0.B.length ∧ Fr (own A t0 vs0) w w' ∧ ∀ y, own A t vs y → own A t0 vs0 y ∨ w.heap.size ≤ y := by
  obtain ⟨xs, hxs⟩ := way_ex h.ok key.data.toList _ t0.rt h.ok.rin (Nat.le_refl _)
  obtain ⟨b, hb, hL⟩ := way_last h.ok hxs (root_on h.ok _).1 (root_on h.ok _).2
  obtain ⟨hn0, hC⟩ := way_chn h.ok hxs
  obtain ⟨f, hf⟩ : ∃ f : Nat → Nat, f = fun j => xs.getD j 0 := ⟨_, rfl⟩
  rw [← hf] at hC
  have hxl := way_len h.ok hxs _ h.ln
  obtain ⟨n1, hn1⟩ : ∃ n1, xs.length = n1 + 1 := ⟨xs.length - 1, by omega⟩
  have hbf : b = f n1 := by
    rw [List.getLast?_eq_getElem?, hn1, show n1 + 1 - 1 = n1 by omega] at hb
    rw [hf]
    show b = xs.getD n1 0
    rw [List.getD_eq_getElem?_getD, hb]; rfl
  rw [hn1, show n1 + 1 - 1 = n1 by omega] at hC
  have hfx : ∀ j (hj : j < xs.length), xs[j] = f j := fun j hj => by rw [hf]; simp [List.getD_eq_getElem?_getD, hj]
  subst hbf
  have hW : ∀ (w1 : World), w1 = (w.alloc (.cells #[.pointer (some ⟨A, 0, none⟩)] 25)).alloc (.cells #[.string key] 9) → Below w.heap.size w w1 ∧
      Calls Try.prog 23 #[.func (.func 37) #[] #[.pointer (some ⟨w.heap.size, 0, none⟩), .pointer (some ⟨w.heap.size + 1, 0, none⟩)]] w1 fun e w' => ∃ v, e = .returned v ∧ KsAt w' v xs ∧ (∀ g, v.ownBlock = some g → w1.heap.size ≤ g) ∧ Below w1.heap.size w1 w' := fun w1 e => by
    have hB : Below w.heap.size w w1 := by rw [e]; exact ((Below.refl _ w).alloc (Nat.le_refl _) _).alloc (by simp) _
    have c1 := cell_new_l w (.pointer (some ⟨A, 0, none⟩)) 25
    have c2 := cell_new_l (w.alloc (.cells #[.pointer (some ⟨A, 0, none⟩)] 25)) (.string key) 9
    simp only [World.size_alloc] at c2
    exact ⟨hB, collect_calls (h.below hB) key hK xs hxs (by omega) w.heap.size (w.heap.size + 1) (by rw [e]; simp; omega) (by rw [e]; simp) (by rw [e]; exact cell_alloc_l _ c1.1) (by rw [e]; exact c2.1)⟩
  have HW := Lib.hid hW
  have HH := Lib.hid h
  have HL := Lib.hid hL
  have HC := Lib.hid hC
  have HFX := Lib.hid hfx
  have HN1 := Lib.hid hn1
  have HM1 := Lib.hid hm1
  have HM0 := Lib.hid hm0
  clear h hL hC hfx hf hb hxs hn0 hW hm1 hm0
  have hw1 : IntKind.i64.wrap ((xs.length : Int) - 1) = (n1 : Int) := by rw [IntKind.wrap_i64]; omega
  have hb1 : (n1 : Int) < (xs.length : Int) := by omega
  have hb2 : (n1 : Int) < (n1 : Int) + 1 := by omega
  go_enter Try.func9, Try.ntmps9
  go_wp2_with fail
  refine (way_calls _ A key).mono ?_; rintro en w1 ⟨rfl, hw1e⟩
  obtain ⟨hB1, hCo⟩ := HW.out w1 hw1e
  have HB1 := Lib.hid hB1
  have HCo := Lib.hid hCo
  clear hB1 hCo hw1e HW
  go_wp2_with fail
  refine HCo.out.mono ?_; rintro en w2 ⟨v, rfl, hks, hvo, hB2⟩
  have HB2 := Lib.hid (bstep HB1.out hB2)
  have HT := Lib.hid (HH.out.below HB2.out)
  obtain ⟨a, cp, rfl, -, -, hcs⟩ := hks.slice
  obtain ⟨g, rfl, hgl, -⟩ := hcs 0 (by have := HN1.out; omega)
  have HG : Hid (w.heap.size ≤ g ∧ g < w2.heap.size) := Lib.hid ⟨by have := hvo g rfl; have := HB1.out.size; omega, hgl⟩
  have HR : Hid (∀ j, j < xs.length → w2.cell? ⟨g, j, none⟩ = some (.pointer (some ⟨f j, 0, none⟩))) := Lib.hid (fun j hj => by
    obtain ⟨g', e, -, hc⟩ := hcs j hj
    cases e
    rw [hc, HFX.out j hj]; rfl)
  clear hks hvo hB2 hcs hgl HCo HB1
  have r1 := HR.out n1 (by have := HN1.out; omega)
  have hn := HT.out.tr.nod (f n1) HL.out.on.1
  have b0 := hn.c0
  have b1 := hn.c1
  clear hn
  by_cases he : t0.tx (f n1) = key.data.toList
  case neg =>
    have hk : ((bs (t0.tx (f n1))).toList == key.toList) = false := by
      rw [beq_eq_false_iff_ne, bs_toList, ByteArray.toList_eq]; exact he
    have HGt : Hid (look t0 key.data.toList = none) := Lib.hid (by rw [HL.out.get HH.out.ok, if_neg he])
    clear he
    generalize bs (t0.tx (f n1)) = P at *
    go_wp2_with fail
    go_ret
    rw [HGt.out, show m - (1 - fresh none) = m by simp [fresh]]
    refine ⟨rfl, t0, vs0, HT.out, HM0.out, fun K => ?_, Nat.le_refl _, Fr.of_below HB2.out, fun y hy => .inl hy⟩
    by_cases hKK : K = key.data.toList
    · rw [if_pos hKK, hKK, HGt.out]
    · rw [if_neg hKK]
  case pos =>
    have hk : ((bs (t0.tx (f n1))).toList == key.toList) = true := by rw [he, bs_data]; exact beq_self_eq_true _
    have HGt : Hid (look t0 key.data.toList = t0.nm (f n1)) := Lib.hid (by rw [HL.out.get HH.out.ok, if_pos he])
    have HE := Lib.hid he
    clear he
    generalize bs (t0.tx (f n1)) = P at *
    cases hnm : t0.nm (f n1) with
    | none =>
      rw [hnm] at b1
      simp only [Option.isSome_none] at b1
      go_wp2_with fail
      go_ret
      rw [HGt.out, hnm, show m - (1 - fresh none) = m by simp [fresh]]
      refine ⟨rfl, t0, vs0, HT.out, HM0.out, fun K => ?_, Nat.le_refl _, Fr.of_below HB2.out, fun y hy => .inl hy⟩
      by_cases hKK : K = key.data.toList
      · rw [if_pos hKK, hKK, HGt.out, hnm]
      · rw [if_neg hKK]
    | some z =>
      rw [hnm] at b1
      simp only [Option.isSome_some] at b1
      have hnd := HT.out.tr.nod (f n1) HL.out.on.1
      have b2 : w2.cell? ⟨f n1, 2, none⟩ = some (.int .i64 z) := by have := hnd.c2; rw [hnm] at this; exact this
      have f1 := hnd.fz 1
      have f2 := hnd.fz 2
      have b2' : (w2.setCell ⟨f n1, 1, none⟩ (.bool false)).cell? ⟨f n1, 2, none⟩ = some (.int .i64 z) := (World.cell?_setCell_other _ _ _ _ (addr_ne (.inr (by decide)))).trans b2
      have HM := Lib.hid (HT.out.marked HL.out.on.1 none)
      have a1 := HM.out.1.c1
      have g1 := HT.out.fz 1
      simp only [Option.isSome_none, Option.getD_none] at a1
      have hmp : 1 ≤ m := HM1.out (by rw [HGt.out, hnm]; simp)
      have hwm : IntKind.i64.wrap ((m : Int) - 1) = ((m - 1 : Nat) : Int) := by rw [IntKind.wrap_i64]; omega
      have HCn := Lib.hid (HM.out.1.count (m - 1))
      have H0 : Hid (DRel w A t0 vs0 (m - 1) f key.data.toList g (n1 + 1) (((w2.setCell ⟨f n1, 1, none⟩ (.bool false)).setCell ⟨f n1, 2, none⟩ (.int .i64 0)).setCell ⟨A, 1, none⟩ (.int .i64 ((m - 1 : Nat) : Int))).drew (t0.mark (f n1) none) vs0 n1) := by
        have hdB : ∀ W : World, Below W.heap.size W W.drew := fun W => (Below.refl _ W).drew
        have hgA : g ≠ A := fun e => by have := HH.out.lt (x := A) (.inl rfl); have := HG.out.1; omega
        have hgf : g ≠ f n1 := fun e => by have := HH.out.lt (x := f n1) (.inr (.inl HL.out.on.1)); have := HG.out.1; omega
        have hS : ∀ i, i < w.heap.size → own A t0 vs0 i → own A t0 vs0 i := fun i _ h => h
        refine Lib.hid ⟨HCn.out.1.below (hdB _), HC.out.mark _ _, HM0.out.unmark, fun K' => ?_, Nat.le_refl _, (((Fr.of_below (S := own A t0 vs0) HB2.out).trans2 HM.out.2 hS).trans2 HCn.out.2 hS).trans2 (Fr.of_below (S := own A t0 vs0) (hdB _)) hS, fun y hy => .inl hy, fun j hj => ?_, fun e => ?_, ?_⟩
        · rw [look_mark HH.out.ok HL.out.on.1, HE.out]
        · show World.cell? _ _ = _
          rw [World.cell?_drew, World.cell?_setCell_other _ _ _ _ (addr_ne (.inl (fun e => hgA e.symm))), World.cell?_setCell_other _ _ _ _ (addr_ne (.inl (fun e => hgf e.symm))), World.cell?_setCell_other _ _ _ _ (addr_ne (.inl (fun e => hgf e.symm)))]
          exact HR.out j (by have := HN1.out; omega)
        · have := HH.out.lt e; have := HG.out.1; omega
        · have := HG.out.2
          simp
          exact this
      have hmm : m - (1 - fresh (some z)) = m - 1 := by simp [fresh]
      clear hnd HM HCn
      go_wp2_with fail
      go_region_law (fail)
      all_goals
        go_wp2_with fail
        go_loopg [8] (n1 + 2) (fun gk vi wr => ∃ (i : Nat) (t : Tr) (vs : Nat → Value), vi = .int .i64 i ∧ Hid (i < gk ∧ i ≤ n1) ∧ Hid (DRel w A t0 vs0 (m - 1) f key.data.toList g (n1 + 1) wr t vs i))
        case atStart => exact ⟨n1, _, vs0, rfl, Lib.hid ⟨by omega, Nat.le_refl _⟩, H0⟩
        case round =>
          obtain ⟨i, t, vs, rfl, HI, HD⟩ := hrel
          have ri := HD.out.row i (by have := HI.out.2; omega)
          have hmem := HD.out.chn.mem i (Nat.le_refl _)
          obtain ⟨q, HQ⟩ : ∃ q, Hid ((!(t.nm (f i)).isSome && decide ((t.ks (f i)).length < 2)) = q) := ⟨_, Lib.hid rfl⟩
          have HId := Lib.hid (idle_calls (HD.out.obj.tr.nod (f i) hmem) (HD.out.obj.tr.row (f i) hmem) q HQ)
          have hib : (i : Int) < (n1 : Int) + 1 := by have := HI.out.2; omega
          clear hmem H0
          by_cases hi0 : i = 0
          case pos =>
            subst hi0
            go_wp2_with fail
            go_ret
            have hd := HD.out
            rw [HGt.out, hnm, hmm]
            exact ⟨rfl, t, vs, hd.obj, hd.done (.inl rfl), hd.lk, hd.len, hd.fr, hd.ow⟩
          case neg =>
            have hpos : (0 : Int) < (i : Int) := by omega
            obtain ⟨j, HJ⟩ : ∃ j, Hid (i = j + 1) := ⟨i - 1, Lib.hid (by omega)⟩
            have hwj : IntKind.i64.wrap ((i : Int) - 1) = (j : Int) := by have := HJ.out; have := HI.out.2; rw [IntKind.wrap_i64]; omega
            have hjb : (j : Int) < (n1 : Int) + 1 := by have := HJ.out; omega
            have rj := HD.out.row j (by have := HI.out.2; have := HJ.out; omega)
            clear hi0
            cases q with
            | false =>
              go_wp2_with fail
              refine HId.out.mono ?_; rintro en wi ⟨rfl, rfl⟩
              go_wp2_with fail
              go_ret
              have hd := HD.out
              rw [HGt.out, hnm, hmm]
              refine ⟨rfl, t, vs, hd.obj, hd.done (.inr ?_), hd.lk, hd.len, hd.fr, hd.ow⟩
              have hq := HQ.out
              cases e : t.nm (f i) with
              | some z => exact .inl (by simp)
              | none =>
                rw [e] at hq
                simp at hq
                exact .inr hq
            | true =>
              go_wp2_with fail
              refine HId.out.mono ?_; rintro en wi ⟨rfl, rfl⟩
              have HDd := Lib.hid (HD.out.below ((Below.refl _ wr).drew))
              have HS : Hid (Calls Try.prog 26 #[.pointer (some ⟨f j, 0, none⟩), .pointer (some ⟨f i, 0, none⟩)] wr.drew fun e w' => e = .returned (.tuple #[]) ∧ ∃ t' vs', w'.cell? ⟨A, 2, none⟩ = some (.int .i64 t.B.length) ∧ w'.frozen? ⟨A, 2, none⟩ = false ∧
                  DRel w A t0 vs0 (m - 1) f key.data.toList g (n1 + 1) (w'.setCell ⟨A, 2, none⟩ (.int .i64 ((t.B.length : Int) - 1))) t' vs' j) := Lib.hid (by
                have hj := HJ.out
                subst hj
                exact HDd.out.skipC HQ.out)
              have hwl : IntKind.i64.wrap ((t.B.length : Int) - 1) = (t.B.length : Int) - 1 := by have := HD.out.len; rw [IntKind.wrap_i64]; omega
              clear HId HDd
              go_wp2_with fail
              go_region_with (go_at_call 26; refine HS.out.mono ?_; rintro en w3 ⟨rfl, t', vs', c2, z2, hd3⟩; have HD3 := Lib.hid hd3; clear hd3)
              all_goals
                go_wp2_with fail
                go_roundg (gk - 1)
                case measure => have := HI.out.1; omega
                case rel => exact ⟨j, t', vs', rfl, Lib.hid ⟨by have := HI.out.1; have := HJ.out; omega, by have := HI.out.2; have := HJ.out; omega⟩, HD3⟩
end Go.Proofs.Ytjfcdkmnccafaaa.Pb
