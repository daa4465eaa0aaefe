/- Package recent: Touch, New, Clear. Conditions: an object as it lies; bounds. -/
import Derived.Test.YtkpcobaklbfpcaaCa5
namespace Go.Proofs.Ytkpcobaklbfpcaa.Ca
open Go.ChangeShapes Go.WideShapes Go.ChangeAt Go.RowKit Go.Maps Go.WideMaps
/-- What enter leaves of an object. -/
theorem enter_head {w w1 : World} {T M E n : Nat} {L : Lk} {D : DataW Unit} {x : Nat} (h : Head w T M E n D) (hT : x ≠ T) (hM : x ≠ M) (ht : ∀ i, i ≤ L.length → nd E L i ≠ T) (hm : ∀ i, i ≤ L.length → nd E L i ≠ M) (hf : Fr (fun i => i = x ∨ ∃ m, m ≤ L.length ∧ i = nd E L m) w w1) : Head w1 T M E n D := by
  refine h.keep (hf.block T h.lt ?_) (hf.block M h.map.lt ?_)
  · rintro (e | ⟨m, hl, e⟩)
    · exact hT e.symm
    · exact ht m hl e.symm
  · rintro (e | ⟨m, hl, e⟩)
    · exact hM e.symm
    · exact hm m hl e.symm
set_option maxHeartbeats 4000000 in
set_option maxRecDepth 100000 in
theorem touch_some {w : World} {T M E : Nat} {L : Lk} {D : DataW Unit} (h : RAt w T M E L D) (j : Nat) (hj : j < L.length) (hk : L[j].2.size ≤ maxLen) :
    Calls Try.prog 35 #[.pointer (some ⟨T, 0, none⟩), .string L[j].2] w fun e w' => e = .returned (.bool false) ∧ Mv T M E L w M E (dropL L[j].2 L ++ [(L[j].1, L[j].2)]) D w' := by
  have c0 := h.c0
  have hrun := h.look_run L[j].2 hk
  rw [look_at h.kn hj] at hrun
  have HK := Lib.hid hk
  have HL := Lib.hid (leave_calls h.ring hj)
  have HH := Lib.hid h
  have HX : Hid (nd E L (j + 1) = L[j].1) := Lib.hid (nd_succ hj)
  have HLA := Lib.hid (look_at h.kn hj)
  have HDE := Lib.hid (dropL_erase h.kn hj)
  clear h hk
  generalize L[j].1 = x at *
  generalize L[j].2 = k at *
  go_enter Try.func35, Try.ntmps35
  simp only [ptr, Option.isSome_some] at hrun
  go_wp2_with fail
  refine HL.out.mono ?_; rintro en w1 ⟨rfl, hr1, hl1, hf1, -⟩
  obtain ⟨hh1, hfr1⟩ := leave_head HH.out hj hf1
  have hne : ∀ i, i ≤ (L.eraseIdx j).length → nd E (L.eraseIdx j) i ≠ x := fun i hi e => by
    obtain ⟨m, hm, hmj, e2⟩ := nd_in_erase (E := E) hj hi
    rw [e2, ← HX.out] at e
    exact hmj (HH.out.ring.ne _ _ hm (by omega) e)
  have HE := Lib.hid (enter_calls hr1 hl1 hne)
  have HH1 := Lib.hid hh1
  have HF1 := Lib.hid hfr1
  have d1 := hh1.c1
  clear hr1 hh1 hf1 hfr1 hrun c0 HL hl1 hne
  go_wp2_with fail
  refine HE.out.mono ?_; rintro en w2 ⟨rfl, hr2, hf2, -⟩
  have HR2 := Lib.hid hr2
  have HF2 := Lib.hid hf2
  clear hr2 hf2 HE d1
  go_wp2_with fail
  go_ret
  have nin : ∀ i, i ≤ (L.eraseIdx j).length → ∃ m, m ≤ L.length ∧ nd E (L.eraseIdx j) i = nd E L m := fun i hi => by
    obtain ⟨m, hm, -, e⟩ := nd_in_erase (E := E) hj hi
    exact ⟨m, hm, e⟩
  have hxo : ∀ i, i ≤ (L.eraseIdx j ++ [(x, k)]).length → ∃ m, m ≤ L.length ∧ nd E (L.eraseIdx j ++ [(x, k)]) i = nd E L m := fun i hi => by
    rcases nd_in_app (E := E) hi with e | ⟨m, hm, e⟩
    · exact ⟨j + 1, by omega, by rw [e, HX.out]⟩
    · obtain ⟨m', hm', e'⟩ := nin m hm
      exact ⟨m', hm', by rw [e, e']⟩
  have h2 := enter_head HH1.out (x := x) (L := L.eraseIdx j) (by rw [← HX.out]; exact HH.out.tn _ (by omega)) (by rw [← HX.out]; exact HH.out.mn (by omega)) (fun i hi => by
    obtain ⟨m, hm, e⟩ := nin i hi
    rw [e]; exact HH.out.tn m hm) (fun i hi => by
    obtain ⟨m, hm, e⟩ := nin i hi
    rw [e]; exact HH.out.mn hm) HF2.out
  refine ⟨rfl, ?_, ?_, ?_⟩
  · refine h2.rat (HH.out.ki.touch HH.out.kn HLA.out) (by rw [HDE.out]; exact HR2.out) (nodup_touch HH.out.kn k x) ?_
    rw [HDE.out]
    intro i hi
    obtain ⟨m, hm, e⟩ := hxo i hi
    rw [e]; exact HH.out.tn m hm
  · refine HF1.out.trans (HF2.out.mono ?_)
    rintro i (e | ⟨m, hm, e⟩)
    · exact .inr (.inr ⟨j + 1, by omega, by rw [e, HX.out]⟩)
    · obtain ⟨m', hm', e'⟩ := nin m hm
      exact .inr (.inr ⟨m', hm', by rw [e, e']⟩)
  · rintro y (e | e | ⟨i, hi, e⟩)
    · exact .inl (.inl e)
    · exact .inl (.inr (.inl e))
    · rw [HDE.out] at hi e
      obtain ⟨m, hm, e3⟩ := hxo i hi
      exact .inl (.inr (.inr ⟨m, hm, by rw [e, e3]⟩))
set_option maxHeartbeats 4000000 in
set_option maxRecDepth 100000 in
theorem touch_none {w : World} {T M E : Nat} {L : Lk} {D : DataW Unit} (h : RAt w T M E L D) (k : ByteArray) (hk : k.size ≤ maxLen) (hl : look L k = none) (hlen : L.length < maxLen) :
    Calls Try.prog 35 #[.pointer (some ⟨T, 0, none⟩), .string k] w fun e w' => e = .returned (.bool true) ∧ Mv T M E L w M E (L ++ [(w.heap.size, k)]) (D.put (klit k) (dat (some w.heap.size))) w' := by
  have c0 := h.c0
  have hrun := h.look_run k hk
  rw [hl] at hrun
  have HK := Lib.hid hk
  have HH := Lib.hid h
  have HN := Lib.hid hl
  have HLn := Lib.hid hlen
  clear h hk hl hlen
  go_enter Try.func35, Try.ntmps35
  simp only [ptr, Option.isSome_none] at hrun
  have hbb := bbox (w := w) (.cells #[.string k, .pointer none, .pointer none] 77)
  have b0 : (w.alloc (.cells #[.string k, .pointer none, .pointer none] 77)).cell? ⟨T, 0, none⟩ = some (.map (some M)) := (hbb.cell (p := ⟨T, 0, none⟩) HH.out.head.lt).trans c0
  have HB := Lib.hid hbb
  have HLo : Hid (Lone (w.alloc (.cells #[.string k, .pointer none, .pointer none] 77)) w.heap.size k) := Lib.hid ⟨World.cell?_alloc_new w _ _ 0, ⟨_, World.cell?_alloc_new w _ _ 1⟩, ⟨_, World.cell?_alloc_new w _ _ 2⟩, fun j => by simp⟩
  clear hbb
  have hmap := Lib.hid (map_same HH.out.map (HB.out.block M HH.out.map.lt))
  go_wp2_with (at_mapUpdate; refine wpList_mapUpdate_own _ rfl _ _ _ _ rfl 9 73 keyed Try.underlying72 ptrE M L.length D rfl hmap.out HLn.out _ _ _ rfl rfl (hkey HK.out) (dat (some w.heap.size)) [] rfl ?_)
  intro w2 hm2 hg2
  have HG2 := Lib.hid hg2
  have HM2 := Lib.hid hm2
  clear hm2 hg2 b0 c0 hrun hmap
  have hb2 : ∀ y, y < w.heap.size → y ≠ M → w2.heap[y]? = w.heap[y]? := fun y hy hM => (HG2.out.block y (Nat.lt_of_lt_of_le hy HB.out.size) (fun e => hM (by injection e))).trans (HB.out.block y hy)
  have hr2 : Ring w2 E L := HH.out.ring.keep fun i hi => hb2 _ (HH.out.ring.lt hi) (HH.out.mn hi)
  have hh2 : Head w2 T M E (L.length + 1) (D.put (klit k) (dat (some w.heap.size))) := HH.out.head.cells (hb2 T HH.out.head.lt HH.out.mt) HM2.out
  have hsz : (w.alloc (.cells #[.string k, .pointer none, .pointer none] 77)).heap.size = w.heap.size + 1 := by simp
  have ex : w2.heap[w.heap.size]? = (w.alloc (.cells #[.string k, .pointer none, .pointer none] 77)).heap[w.heap.size]? := HG2.out.block _ (by rw [hsz]; omega) (fun e => by have h1 : M = w.heap.size := (by injection e with e; exact e.symm); have := HH.out.map.lt; omega)
  have ec : ∀ j, w2.cell? ⟨w.heap.size, j, none⟩ = (w.alloc (.cells #[.string k, .pointer none, .pointer none] 77)).cell? ⟨w.heap.size, j, none⟩ := fun j => World.cell?_of_block (a := ⟨w.heap.size, j, none⟩) ex
  obtain ⟨y1, k1⟩ := HLo.out.c1
  obtain ⟨y2, k2⟩ := HLo.out.c2
  have hl2 : Lone w2 w.heap.size k := ⟨(ec 0).trans HLo.out.c0, ⟨_, (ec 1).trans k1⟩, ⟨_, (ec 2).trans k2⟩, fun j => (World.frozen?_of_block (a := ⟨w.heap.size, j, none⟩) ex).trans (HLo.out.fz j)⟩
  have HE := Lib.hid (enter_calls hr2 hl2 (fun i hi e => by have := HH.out.ring.lt hi; omega))
  have HF2 : Hid (Fr (own T M E L) w w2) := Lib.hid ⟨HG2.out.os.trans HB.out.os, HG2.out.tape.trans HB.out.tape, HG2.out.output.trans HB.out.output, Nat.le_trans HB.out.size HG2.out.size, fun i hi hn => hb2 i hi (fun e => hn (.inr (.inl e)))⟩
  have HH2 := Lib.hid hh2
  have d1 := hh2.c1
  clear hh2 hl2 hr2 ex ec k1 k2 hsz hb2 HG2 HB HLo HM2
  go_wp2_with fail
  refine HE.out.mono ?_; rintro en w3 ⟨rfl, hr3, hf3, -⟩
  have HR3 := Lib.hid hr3
  have HF3 := Lib.hid hf3
  clear hr3 hf3 HE d1
  go_wp2_with fail
  go_ret
  have hT := HH.out.head.lt
  have hM := HH.out.map.lt
  have h3 := enter_head HH2.out (x := w.heap.size) (L := L) (by omega) (by omega) HH.out.tn (fun i hi => HH.out.mn hi) HF3.out
  refine ⟨rfl, ?_, ?_, ?_⟩
  · refine h3.rat (HH.out.ki.put HN.out _) HR3.out ?_ ?_
    · rw [List.map_append, List.nodup_append]
      refine ⟨HH.out.kn, by simp, fun a ha b hb e => ?_⟩
      simp at hb
      exact look_none.1 HN.out (by rw [← hb, ← e]; exact ha)
    · intro i hi
      rcases nd_in_app (E := E) hi with e | ⟨m, hm, e⟩
      · rw [e]; exact fun e => by simp at e; omega
      · rw [e]; exact HH.out.tn m hm
  · refine HF2.out.trans2 HF3.out ?_
    rintro i hi (e | ⟨m, hm, e⟩)
    · omega
    · exact .inr (.inr ⟨m, hm, e⟩)
  · rintro y (e | e | ⟨i, hi, e⟩)
    · exact .inl (.inl e)
    · exact .inl (.inr (.inl e))
    · rcases nd_in_app (E := E) hi with e2 | ⟨m, hm, e2⟩
      · exact .inr (by rw [e, e2]; exact Nat.le_refl _)
      · exact .inl (.inr (.inr ⟨m, hm, by rw [e, e2]⟩))
theorem touch_calls {w : World} {T M E : Nat} {L : Lk} {D : DataW Unit} (h : RAt w T M E L D) (k : ByteArray) (hk : k.size ≤ maxLen) (hlen : L.length < maxLen) :
    Calls Try.prog 35 #[.pointer (some ⟨T, 0, none⟩), .string k] w fun e w' => e = .returned (.bool (!inK k (L.map (·.2)))) ∧ ∃ x D', Mv T M E L w M E (dropL k L ++ [(x, k)]) D' w' := by
  rw [← look_isSome]
  cases hl : look L k with
  | none =>
    refine (touch_none h k hk hl hlen).mono ?_
    rintro e w' ⟨rfl, hm⟩
    exact ⟨rfl, _, _, by rw [dropL_none hl]; exact hm⟩
  | some b =>
    obtain ⟨j, hj, e⟩ := look_idx hl
    have e1 : L[j].2 = k := by rw [e]
    subst e1
    refine (touch_some h j hj hk).mono ?_
    rintro e w' ⟨rfl, hm⟩
    exact ⟨rfl, _, _, hm⟩
theorem new_at (w : World) (N : Nat) (hN : N = w.heap.size) : RAt (((w.alloc (.cells #[.string ⟨#[]⟩, .pointer (some ⟨N, 0, none⟩), .pointer (some ⟨N, 0, none⟩)] 77)).alloc (.map #[] 0)).alloc (.cells #[.map (some (N + 1)), .pointer (some ⟨N, 0, none⟩)] 75)) (N + 1 + 1) (N + 1) N [] (.map []) ∧
    Below w.heap.size w (((w.alloc (.cells #[.string ⟨#[]⟩, .pointer (some ⟨N, 0, none⟩), .pointer (some ⟨N, 0, none⟩)] 77)).alloc (.map #[] 0)).alloc (.cells #[.map (some (N + 1)), .pointer (some ⟨N, 0, none⟩)] 75)) := by
  have c1 := fun j => World.cell?_alloc_new w #[.string ⟨#[]⟩, .pointer (some ⟨N, 0, none⟩), .pointer (some ⟨N, 0, none⟩)] 77 j
  have f1 : ∀ j, (w.alloc (.cells #[.string ⟨#[]⟩, .pointer (some ⟨N, 0, none⟩), .pointer (some ⟨N, 0, none⟩)] 77)).frozen? ⟨w.heap.size, j, none⟩ = false := fun j => by simp
  have s1 : (w.alloc (.cells #[.string ⟨#[]⟩, .pointer (some ⟨N, 0, none⟩), .pointer (some ⟨N, 0, none⟩)] 77)).heap.size = w.heap.size + 1 := by simp
  have B1 := bbox (w := w) (.cells #[.string ⟨#[]⟩, .pointer (some ⟨N, 0, none⟩), .pointer (some ⟨N, 0, none⟩)] 77)
  generalize w.alloc (.cells #[.string ⟨#[]⟩, .pointer (some ⟨N, 0, none⟩), .pointer (some ⟨N, 0, none⟩)] 77) = W1 at *
  have m2 := World.ownsMap_made W1 Try.prog 9 ptrE
  have s2 : (W1.alloc (.map #[] 0)).heap.size = W1.heap.size + 1 := by simp
  have B2 := bbox (w := W1) (.map #[] 0)
  generalize W1.alloc (.map #[] 0) = W2 at *
  have c3 := fun j => World.cell?_alloc_new W2 #[.map (some (N + 1)), .pointer (some ⟨N, 0, none⟩)] 75 j
  have f3 : ∀ j, (W2.alloc (.cells #[.map (some (N + 1)), .pointer (some ⟨N, 0, none⟩)] 75)).frozen? ⟨W2.heap.size, j, none⟩ = false := fun j => by simp
  have B3 := bbox (w := W2) (.cells #[.map (some (N + 1)), .pointer (some ⟨N, 0, none⟩)] 75)
  generalize W2.alloc (.cells #[.map (some (N + 1)), .pointer (some ⟨N, 0, none⟩)] 75) = W3 at *
  rw [s2, s1, ← hN] at c3 f3
  rw [s1, ← hN] at m2
  rw [← hN] at c1 f1
  have B23 : Below W1.heap.size W1 W3 := bstep B2 B3
  have e1 : ∀ j, W3.cell? ⟨N, j, none⟩ = W1.cell? ⟨N, j, none⟩ := fun j => B23.cell (p := ⟨N, j, none⟩) (by show N < _; omega)
  have e2 : ∀ j, W3.frozen? ⟨N, j, none⟩ = W1.frozen? ⟨N, j, none⟩ := fun j => B23.frozen (p := ⟨N, j, none⟩) (by show N < _; omega)
  refine ⟨⟨c3 0, c3 1, f3, map_same m2 (B3.block _ (by omega)), KI.new, ⟨fun i hi => ?_, fun i hi => ?_, fun i hi => absurd hi (Nat.not_lt_zero _), fun i j hi hj _ => ?_, fun i j hi => ?_⟩, List.nodup_nil, fun i hi e => ?_⟩, bstep (bstep B1 B2) B3⟩
  · obtain rfl : i = 0 := by simpa using hi
    rw [nd_zero, nd_end (by decide), e1]; exact c1 2
  · obtain rfl : i = 0 := by simpa using hi
    rw [nd_zero, nd_end (by decide), e1]; exact c1 1
  · simp at hi hj; omega
  · obtain rfl : i = 0 := by simpa using hi
    rw [nd_zero, e2]; exact f1 j
  · obtain rfl : i = 0 := by simpa using hi
    rw [nd_zero] at e; omega
set_option maxHeartbeats 4000000 in
set_option maxRecDepth 100000 in
theorem new_calls (w : World) :
    Calls Try.prog 32 #[] w fun e w' => ∃ T M E, e = .returned (.pointer (some ⟨T, 0, none⟩)) ∧ RAt w' T M E [] (.map []) ∧ Below w.heap.size w w' ∧ ∀ x, own T M E [] x → w.heap.size ≤ x := by
  have hmm := @run_makeMap Try.prog
  go_enter Try.func32, Try.ntmps32
  go_wp2_with fail
  go_ret
  obtain ⟨h1, h2⟩ := new_at w w.heap.size rfl
  refine ⟨_, _, _, rfl, h1, h2, ?_⟩
  rintro x (rfl | rfl | ⟨i, hi, rfl⟩)
  · omega
  · omega
  · obtain rfl : i = 0 := by simpa using hi
    exact Nat.le_refl _
end Go.Proofs.Ytkpcobaklbfpcaa.Ca
