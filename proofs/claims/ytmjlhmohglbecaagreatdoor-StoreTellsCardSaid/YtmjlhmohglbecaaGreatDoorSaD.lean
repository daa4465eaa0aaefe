/- Package store: set. Conditions: a Store as it lies; the library's variables hold what start-up lays; bounds. -/
import Derived.Test.YtmjlhmohglbecaaGreatDoorSaC
import Derived.Deep.RegionLawGrows
import Derived.Test.YtmjlhmohglbecaaGreatDoorIaC
import Derived.Test.YtmjlhmohglbecaaGreatDoorIaD
namespace Go.Proofs.YtmjlhmohglbecaaGreatDoor.Sa
set_option linter.unusedVariables false
set_option linter.unusedSimpArgs false
open Go.ChangeShapes Go.WideShapes Go.ChangeAt Go.RowKit
open Sp (Th Hp Stays All Ro roT rowT cellsT exT puT star)
/-- What set leaves: the parts of a Store whose recents don't know yet. -/
structure SetR (T : Nat) (o w : World) (l : List Th) (m : Md) (k : ByteArray) (i : Ia.It) (E U X : Nat) (ev rv : Value) (P : List Rw) (f : ByteArray → Option Int) (gn : Int) : Prop where
  h : Hp o w (cellsT T [.pointer (some ⟨E, 0, none⟩), rv, .pointer (some ⟨U, 0, none⟩), .pointer (some ⟨X, 0, none⟩), .int .i64 gn, .int .i64 m.b, ev] :: tabT E f P.length :: rowsT rv P :: roT (rowsR P) :: recT U m.K :: expT X m.S :: evsT ev m.ev :: l)
  tab : TabOf f P
  pm : List.Perm (P.map (·.k)) (Ca.touchK k m.K)
  it : ∀ p ∈ P, updF m.f k i p.k = p.i
  n : gn = sumB (updF m.f k i) (Ca.touchK k m.K)
section
variable {o w w' wb : World} {l : List Th} {T : Nat} {m : Md}
theorem touchK_permIn {k : ByteArray} {K : List ByteArray} (h : K.Nodup) (hk : k ∈ K) : List.Perm K (Ca.touchK k K) :=
  (dropK_perm h hk).trans (List.perm_append_comm (l₁ := [k]) (l₂ := Ca.dropK k K))
theorem touchK_permNo {k : ByteArray} {K : List ByteArray} (hk : k ∉ K) : Ca.touchK k K = K ++ [k] := by
  unfold Ca.touchK
  rw [Ca.dropK_none hk]
theorem sumB_updNo {f : ByteArray → Ia.It} {k : ByteArray} {i : Ia.It} {K : List ByteArray} (hk : k ∉ K) : sumB (updF f k i) K = sumB f K :=
  sumB_ext fun x hx => updF_ne fun e => hk (e ▸ hx)
theorem sumB_updIn {f : ByteArray → Ia.It} {k : ByteArray} {i : Ia.It} {K : List ByteArray} (h : K.Nodup) (hk : k ∈ K) : (sumB (updF f k i) (Ca.touchK k K) : Int) = sumB f K + costN k i - costN k (f k) := by
  rw [sumB_touch h hk, sumB_drop h hk, updF_same, sumB_drop (f := f) h hk, sumB_updNo (fun hm => (Ca.mem_dropK.1 hm).2 rfl)]
  omega
theorem set_updW {P : List Rw} {f : ByteArray → Ia.It} {j : Nat} (hj : j < P.length) {k : ByteArray} {i : Ia.It} (hk : P[j].k = k) (hn : (P.map (·.k)).Nodup) (hi : ∀ p ∈ P, f p.k = p.i) {a : Option Addr} {c : Nat} : ∀ p ∈ P.set j ⟨k, i, a, c⟩, updF f k i p.k = p.i := fun p hp => by
  obtain ⟨x, hx, rfl⟩ := List.mem_iff_getElem.1 hp
  rw [List.length_set] at hx
  by_cases e : x = j
  · subst e
    rw [List.getElem_set_self]
    exact updF_same ..
  · rw [List.getElem_set_ne (Ne.symm e)]
    rw [updF_ne fun e2 => ?_]
    · exact hi _ (List.getElem_mem hx)
    · have := (List.getElem_inj (h₀ := by rw [List.length_map]; exact hx) (h₁ := by rw [List.length_map]; exact hj) hn (i := x) (j := j)).1 (by simp [e2, hk])
      exact e this
theorem set_keys {P : List Rw} {j : Nat} (hj : j < P.length) {q : Rw} (hq : q.k = P[j].k) : (P.set j q).map (·.k) = P.map (·.k) := by
  rw [List.map_set, hq]
  have : P[j].k = (P.map (·.k))[j]'(by rw [List.length_map]; exact hj) := by simp
  rw [this, List.set_getElem_self]
theorem set_self {α : Type} {l : List α} {i : Nat} {x : α} (h : l[i]? = some x) : l.set i x = l := by
  obtain ⟨hi, e⟩ := List.getElem?_eq_some_iff.1 h
  rw [← e, List.set_getElem_self]
/-- A row's item, written. -/
theorem row_set3 {P : List Rw} {g c : Nat} (h : Hp o w (rowsT (.slice (some ⟨g, 0, none⟩) P.length c) P :: l)) {j : Nat} (hj : j < P.length) (i : Ia.It) (a : Option Addr) (c2 : Nat) :
    Hp o (((w.setCell ⟨g, j * 4 + 1, none⟩ (.int .i64 i.k)).setCell ⟨g, j * 4 + 1 + 1, none⟩ (.string i.t)).setCell ⟨g, j * 4 + 1 + 2, none⟩ (.slice a i.l.length c2)) (rowsT (.slice (some ⟨g, 0, none⟩) P.length c) (P.set j ⟨P[j].k, i, a, c2⟩) :: l) := by
  have h1 := ((Hp.rowSet h (j * 4 + 1) (.int .i64 i.k)).rowSet (j * 4 + 2) (.string i.t)).rowSet (j * 4 + 3) (.slice a i.l.length c2)
  have e := cellsW_set P j hj ⟨P[j].k, i, a, c2⟩
  rw [set_self (show (cellsW P)[j * 4]? = some (.string P[j].k) from cellsW_at P j hj 0 (by decide))] at e
  rw [← e] at h1
  unfold rowsT
  rw [List.length_set]
  exact h1
theorem ro_two {r1 r2 r : Ro} (h : Hp o w (roT r1 :: roT r2 :: l)) (k : ∀ {R}, r1.P R w → r2.P R w → r.P R w) : Hp o w (roT r :: l) := by
  obtain ⟨O, R, ⟨A, B, ⟨h0, h1⟩, ⟨C, D, ⟨h2, h3⟩, h4, h5, h6⟩, h7, h8⟩, h9⟩ := h
  refine ⟨O, R, ⟨A, D, ⟨h0, k h1 h3⟩, h4, fun x hx => absurd hx (h0 x), fun x => ?_⟩, h9⟩
  rw [h8, h6]
  constructor
  · rintro (h | h | h)
    · exact .inl h
    · exact absurd h (h2 x)
    · exact .inr h
  · rintro (h | h)
    · exact .inl h
    · exact .inr (.inr h)
set_option maxHeartbeats 8000000 in
set_option maxRecDepth 100000 in
theorem set_calls {a : Option Addr} {c : Nat} {i : Ia.It} (h : Hp o w (roT (itemR a c i) :: storeT T m :: l)) (hw : Below w.heap.size w wb) (hc : Ctx o) (k : ByteArray) (hk : k.size ≤ 512) (hi : Ia.RightP i) (hn : m.K.length ≤ 400) :
    Calls Tryz.prog 49 #[ptr T, .string k, .agg #[.int .i64 i.k, .string i.t, .slice a i.l.length c]] wb fun e w' => e = .returned (.tuple #[]) ∧ ∃ E U X ev rv P f gn, SetR T o w' l m k i E U X ev rv P f gn := by
  obtain ⟨E, U, X, rv, P, f, ev, gn, hr, h⟩ := store_open2 ((h.bel hw).pull 1 rfl)
  have hr1 : TabOf f P := hr.tab
  have hr2 : (f k).isSome = Ca.inK k m.K := hr.mem k
  have hr3 : P.length = m.K.length := hr.len
  have hr4 : gn = sumB m.f m.K := hr.n
  have hb := h.cellsNew [.int .i64 i.k, .string i.t, .slice a i.l.length c] 31
  have HH : Hid (Hp o (wb.alloc (.cells #[.int .i64 i.k, .string i.t, .slice a i.l.length c] 31)) (cellsT wb.heap.size [.int .i64 i.k, .string i.t, .slice a i.l.length c] :: cellsT T [.pointer (some ⟨E, 0, none⟩), rv, .pointer (some ⟨U, 0, none⟩), .pointer (some ⟨X, 0, none⟩), .int .i64 gn, .int .i64 m.b, ev] :: tabT E f P.length :: rowsT rv P :: roT (rowsR P) :: recT U m.K :: expT X m.S :: evsT ev m.ev :: roT (itemR a c i) :: l)) := Lib.hid hb
  have HR := Lib.hid hr
  have hcst : costN k i ≤ 2000000 := costN_le2 (by omega) hi
  have hg1 : 0 ≤ gn ∧ gn ≤ 1000000000 := by have := hr.pre.sum_le; omega
  have HKn := Lib.hid hr.pre.kn
  have HTf := Lib.hid hr1
  have HIk := Lib.hid hr2
  have HPl := Lib.hid hr3
  have HGn := Lib.hid hr4
  have hpl : P.length ≤ 400 := by omega
  clear h hw hb hr1 hr2 hr3 hr4 hr
  unfold ptr at *
  go_enter Tryz.func49, Tryz.ntmps49
  go_wp2_with fail
  generalize wb.alloc (.cells #[.int .i64 i.k, .string i.t, .slice a i.l.length c] 31) = W0 at *
  generalize wb.heap.size = B0 at *
  have HIn : Hid (∀ W, Below W0.heap.size W0 W → Ia.InF W a i.l) := Lib.hid fun W hb => ((HH.out.bel hb).pull 8 rfl).say fun {A R} hp _ hR => (hp.2.2.2).inF hR
  obtain ⟨F, F1, F2, F3⟩ := Sp.ovr W0
  have b0 := Sp.ovr_cell F1 (HH.out.cell 0 rfl)
  have b1 := Sp.ovr_cell F1 (HH.out.cell 1 rfl)
  have b2 := Sp.ovr_cell F1 (HH.out.cell 2 rfl)
  have c4 := Sp.ovr_cell F1 ((HH.out.pull 1 rfl).cell 4 rfl)
  have HF1 := Lib.hid F1
  have HF3 := Lib.hid F3
  have HCo := Lib.hid fun x => cost_calls (F x) (hc.below (HH.out.below.trans ((F1 x).mono HH.out.below.size))) k (by omega) i hi a c (HIn.out _ (F1 x))
  clear F1 F3 HIn
  refine Go.Proofs.YtmjlhmohglbecaaGreatDoor.wp_region_tail F 7 (by kernel_rfl) (by kernel_rfl) F2 ?_
  simp only [List.take_succ_cons, List.take_zero, List.drop_succ_cons, List.drop_zero]
  repeat (go_big_quiet_step ((go_at_call 48; with_reducible exact Sp.q_ovr HF3.out (HCo.out _))))
  refine wpQuiet_nil ?_
  intro x1
  have H2 := Lib.hid (HH.out.bel (HF1.out x1))
  clear c4 b0 b1 b2 F2 HF1 HF3 HCo HH
  generalize F x1 = W2 at *
  have z4 := (H2.out.pull 1 rfl).free 4 rfl
  have c4 := (H2.out.pull 1 rfl).cell 4 rfl
  have HP0 : Hid (∃ p : Int, gn + (costN k i : Int) = p ∧ 0 ≤ p ∧ p ≤ 1002000000) := Lib.hid ⟨_, rfl, by omega, by omega⟩
  obtain ⟨p, hp, hp0, hp1⟩ := HP0.out
  have HP := Lib.hid hp
  have hwp : IntKind.i64.wrap p = p := by rw [IntKind.wrap_i64]; omega
  have H3 : Hid (Hp o (W2.setCell ⟨T, 4, none⟩ (.int .i64 p)) (cellsT B0 [.int .i64 i.k, .string i.t, .slice a i.l.length c] :: cellsT T [.pointer (some ⟨E, 0, none⟩), rv, .pointer (some ⟨U, 0, none⟩), .pointer (some ⟨X, 0, none⟩), .int .i64 p, .int .i64 m.b, ev] :: tabT E f P.length :: rowsT rv P :: roT (rowsR P) :: recT U m.K :: expT X m.S :: evsT ev m.ev :: roT (itemR a c i) :: l)) := Lib.hid (((H2.out.pull 1 rfl).cellSet 4 (.int .i64 p) rfl).push 1)
  go_upto_region 2 with fail
  generalize W2.setCell ⟨T, 4, none⟩ (.int .i64 p) = W3 at *
  clear c4 z4 H2 hwp hp HP0
  have e0 := (H3.out.pull 1 rfl).cell 0 rfl
  have HT := Lib.hid (tab_get (H3.out.pull 2 rfl) (Below.refl _ _) k (by omega))
  rw [HIk.out] at HT
  go_wp2_with fail
  refine HT.out.mono ?_; rintro en w4 ⟨rfl, h4, -⟩
  have H4 : Hid (Hp o w4 (cellsT B0 [.int .i64 i.k, .string i.t, .slice a i.l.length c] :: cellsT T [.pointer (some ⟨E, 0, none⟩), rv, .pointer (some ⟨U, 0, none⟩), .pointer (some ⟨X, 0, none⟩), .int .i64 p, .int .i64 m.b, ev] :: tabT E f P.length :: rowsT rv P :: roT (rowsR P) :: recT U m.K :: expT X m.S :: evsT ev m.ev :: roT (itemR a c i) :: l)) := Lib.hid (h4.push 2)
  clear h4 HT e0 H3
  cases hin : Ca.inK k m.K with
  | false =>
    have hfk : f k = none := by
      have hr2 := HIk.out
      rw [hin] at hr2
      cases hfk : f k with
      | none => rfl
      | some x => rw [hfk] at hr2; cases hr2
    have HFK := Lib.hid hfk
    have HIN := Lib.hid hin
    clear hin hfk
    obtain ⟨ra, rc, rfl, -, hrc, -⟩ := (H4.out.pull 3 rfl).rowForm
    obtain ⟨F, hF⟩ : ∃ F : Nat → World, ∀ x, F x = w4.drewN x := ⟨fun x => w4.drewN x, fun _ => rfl⟩
    have f0 : ∀ x, (F x).cell? ⟨T, 0, none⟩ = some (.pointer (some ⟨E, 0, none⟩)) := fun x => by rw [hF]; exact (H4.out.pull 1 rfl).cell 0 rfl
    have f1 : ∀ x, (F x).cell? ⟨T, 1, none⟩ = some (.slice ra P.length rc) := fun x => by rw [hF]; exact (H4.out.pull 1 rfl).cell 1 rfl
    have f6 : ∃ x, w4.drew = F x := ⟨1, by rw [hF]; rfl⟩
    have HFx := Lib.hid hF
    clear hF
    go_wp2_with fail
    refine Go.Proofs.YtmjlhmohglbecaaGreatDoor.wp_region_tail F 10 (by kernel_rfl) (by kernel_rfl) f6 ?_
    simp only [List.take_succ_cons, List.take_zero, List.drop_succ_cons, List.drop_zero]
    repeat (go_big_quiet_step (fail))
    refine wpQuiet_nil ?_
    intro x2
    have H5 := Lib.hid (H4.out.bel (w' := F x2) (by rw [HFx.out]; exact Ta.drewN_below w4 x2))
    clear f0 f1 f6 HFx H4
    generalize F x2 = W5 at *
    have HPt := Lib.hid (tab_put (wb := W5) (H5.out.pull 2 rfl) (Below.refl _ _) k (by omega) (by omega) (P.length : Int))
    go_wp2_with fail
    refine HPt.out.mono ?_; rintro en w6 ⟨rfl, h6, -⟩
    have h6 := h6.push 2
    rw [HFK.out] at h6
    have H6 : Hid (Hp o w6 (cellsT B0 [.int .i64 i.k, .string i.t, .slice a i.l.length c] :: cellsT T [.pointer (some ⟨E, 0, none⟩), .slice ra P.length rc, .pointer (some ⟨U, 0, none⟩), .pointer (some ⟨X, 0, none⟩), .int .i64 p, .int .i64 m.b, ev] :: tabT E (putF f k (some (P.length : Int))) (P.length + 1) :: rowsT (.slice ra P.length rc) P :: roT (rowsR P) :: recT U m.K :: expT X m.S :: evsT ev m.ev :: roT (itemR a c i) :: l)) := Lib.hid h6
    clear h6 HPt H5
    have q0 := H6.out.cell 0 rfl
    have q1 := H6.out.cell 1 rfl
    have q2 := H6.out.cell 2 rfl
    have t1 := (H6.out.pull 1 rfl).cell 1 rfl
    obtain ⟨i0, hi0, hz0, hz1, hz2⟩ := info_parts iRw
    obtain ⟨a7, c7, w7, hrun, h7, hst⟩ := Sp.rowRun (H6.out.pull 3 rfl) (wb := (w6.alloc (.cells #[.string k, .int .i64 i.k, .string i.t, .slice a i.l.length c] 100)).drew) (Below.drew (Sp.bbox _)) 38 38 i0 _ 64 Tryz.underlying38 hi0 hz0 hz1 hz2 rfl (by decide) ⟨w6.heap.size, 0, none⟩ 1 1 [.string k, .int .i64 i.k, .string i.t, .slice a i.l.length c] rfl
      (fun j u hj => by
        rw [Addr.add_lit, Nat.zero_add]
        show (w6.alloc _).cell? _ = _
        rw [World.cell?_alloc_new]
        simpa using hj)
      (fun u hu => by
        simp only [List.mem_cons, List.not_mem_nil, or_false] at hu
        rcases hu with rfl | rfl | rfl | rfl <;> rfl) (by unfold maxLen; omega) (by omega)
    have H7 : Hid (Hp o w7 (cellsT B0 [.int .i64 i.k, .string i.t, .slice a i.l.length c] :: cellsT T [.pointer (some ⟨E, 0, none⟩), .slice ra P.length rc, .pointer (some ⟨U, 0, none⟩), .pointer (some ⟨X, 0, none⟩), .int .i64 p, .int .i64 m.b, ev] :: tabT E (putF f k (some (P.length : Int))) (P.length + 1) :: rowT 100 4 (.slice a7 (P.length + 1) c7) (P.length + 1) (cellsW P ++ [.string k, .int .i64 i.k, .string i.t, .slice a i.l.length c]) :: roT (rowsR P) :: recT U m.K :: expT X m.S :: evsT ev m.ev :: roT (itemR a c i) :: l)) := Lib.hid (h7.push 3)
    have u1 := (H7.out.pull 1 rfl).cell 1 rfl
    have v1 := (H7.out.pull 1 rfl).free 1 rfl
    clear h7 hst hi0 hz0 hz1 hz2
    have t1a : (w6.alloc (.cells #[.string k, .int .i64 i.k, .string i.t, .slice a i.l.length c] 100)).cell? ⟨T, 1, none⟩ = some (.slice ra P.length rc) := ((Sp.bbox (w := w6) _).cell (p := ⟨T, 1, none⟩) (H6.out.pull 1 rfl).cellsLt).trans t1
    have HZ : Hid (SetR T o (w7.setCell ⟨T, 1, none⟩ (.slice a7 (P.length + 1) c7)) l m k i E U X ev (.slice a7 (P.length + 1) c7) (P ++ [⟨k, i, a, c⟩]) (putF f k (some (P.length : Int))) p) := Lib.hid (by
      have hnk : k ∉ m.K := Ca.inK_false.1 HIN.out
      refine ⟨?_, HTf.out.push (q := ⟨k, i, a, c⟩) HFK.out, ?_, ?_, ?_⟩
      · have g1 := ((H7.out.pull 1 rfl).cellSet 1 (.slice a7 (P.length + 1) c7) rfl).push 1
        have g2 := Hp.dropAt g1 0 rfl
        have g3 := (g2.pull 7 rfl)
        have g4 := ro_two (r := rowsR (P ++ [⟨k, i, a, c⟩])) (g3.pull 4 rfl) (fun h1 h2 q hq => by
          rcases List.mem_append.1 hq with hq | hq
          · exact h1 q hq
          · rw [List.mem_singleton.1 hq]; exact h2)
        have g5 := g4.push 3
        have e : cellsW P ++ [.string k, .int .i64 i.k, .string i.t, .slice a i.l.length c] = cellsW (P ++ [⟨k, i, a, c⟩]) := by rw [cellsW_app]; rfl
        rw [e] at g5
        have e2 : (P ++ [(⟨k, i, a, c⟩ : Rw)]).length = P.length + 1 := by simp
        unfold rowsT
        rw [e2]
        exact g5
      · rw [touchK_permNo hnk, List.map_append]
        exact HR.out.pm.append_right _
      · intro q hq
        rcases List.mem_append.1 hq with hq | hq
        · rw [updF_ne fun e => hnk (by rw [← e]; exact HR.out.key hq)]
          exact HR.out.it q hq
        · rw [List.mem_singleton.1 hq]; exact updF_same ..
      · rw [touchK_permNo hnk, sumB_app, sumB_updNo hnk, sumB_cons, updF_same, ← HP.out, HGn.out]
        simp [sumB])
    go_wp2_with fail
    go_region_law (
      refine Sp.step_app (o := ⟨some 73, _, _, _, _, _⟩) rfl (.tmp 68) (.tmp 72) rfl ?_ ?_ hrun ?_
      simp [Act.eval]
      simp [Act.eval])
    all_goals (go_wp2_with fail; go_end0; exact ⟨rfl, _, _, _, _, _, _, _, _, HZ.out⟩)
  | true =>
    obtain ⟨j, hj, hpk, hfj, hpi⟩ : ∃ j, ∃ hj : j < P.length, P[j].k = k ∧ f k = some (j : Int) ∧ P[j].i = m.f k := HR.out.rowOf hin
    have hkm : k ∈ m.K := Ca.inK_iff.1 hin
    have hrt : Ia.RightP (m.f k) := HR.out.pre.ri k hkm
    have hcst2 : costN k (m.f k) ≤ 2000000 := costN_le2 (by omega) hrt
    have hcn : (costN k (m.f k) : Int) ≤ gn := by
      have := sumB_drop (f := m.f) HKn.out (k := k) hkm
      have := HGn.out
      omega
    have HKM := Lib.hid hkm
    have HIN := Lib.hid hin
    rw [hfj]
    obtain ⟨ra, rc, rfl, -, hrc, ha⟩ := (H4.out.pull 3 rfl).rowForm
    obtain ⟨gb, rfl⟩ := ha (by omega)
    have HD := Lib.hid (row_cells (H4.out.pull 3 rfl) hj)
    have HIn2 : Hid (∀ W, Below w4.heap.size w4 W → Ia.InF W P[j].a (m.f k).l) := Lib.hid fun W hb => by
      rw [← hpi]
      exact ((H4.out.bel hb).pull 4 rfl).say fun {A R} hp _ hR => ((hp.2 _ (List.getElem_mem hj)).2.2).inF hR
    simp only [hpi] at HD
    have HPK := Lib.hid hpk
    have HJ := Lib.hid hj
    have hjc : (j : Int) < (P.length : Int) := by omega
    have HRP : Hid (∀ x : Int, x = gn + costN k i - costN k (m.f k) → x = sumB (updF m.f k i) (Ca.touchK k m.K)) := Lib.hid fun x hx => by
      rw [hx, sumB_updIn HKn.out HKM.out, HGn.out]
    clear ha hpk hfj hpi hin hkm
    generalize P[j].a = pa at *
    generalize P[j].c = pc at *
    generalize m.f k = it at *
    have HQ0 : Hid (∃ q : Int, p - (costN k it : Int) = q ∧ 0 ≤ q ∧ q ≤ 1002000000) := Lib.hid ⟨_, rfl, by have := HP.out; omega, by omega⟩
    obtain ⟨q, hq, hq0, hq1⟩ := HQ0.out
    have hwq : IntKind.i64.wrap q = q := by rw [IntKind.wrap_i64]; omega
    have HQN : Hid (q = sumB (updF m.f k i) (Ca.touchK k m.K)) := Lib.hid (HRP.out q (by rw [← hq, ← HP.out]))
    obtain ⟨F, F1, F2, F3⟩ := Sp.ovr w4
    have c1 := Sp.ovr_cell F1 ((H4.out.pull 1 rfl).cell 1 rfl)
    have c4 := Sp.ovr_cell F1 ((H4.out.pull 1 rfl).cell 4 rfl)
    have d1 := Sp.ovr_cell F1 HD.out.2.1
    have d2 := Sp.ovr_cell F1 HD.out.2.2.1
    have d3 := Sp.ovr_cell F1 HD.out.2.2.2
    have HF1 := Lib.hid F1
    have HF3 := Lib.hid F3
    have HCo := Lib.hid fun x => cost_calls (F x) (hc.below (H4.out.below.trans ((F1 x).mono H4.out.below.size))) k (by omega) it hrt pa pc (HIn2.out _ (F1 x))
    clear F1 F3 hrt HD HIn2
    go_wp2_with fail
    refine Go.Proofs.YtmjlhmohglbecaaGreatDoor.wp_region_tail F 14 (by kernel_rfl) (by kernel_rfl) F2 ?_
    simp only [List.take_succ_cons, List.take_zero, List.drop_succ_cons, List.drop_zero]
    repeat (go_big_quiet_step ((go_at_call 48; with_reducible exact Sp.q_ovr HF3.out (HCo.out _))))
    refine wpQuiet_nil ?_
    intro x1
    have H5 := Lib.hid (H4.out.bel (HF1.out x1))
    clear c1 c4 d1 d2 d3 F2 HF1 HF3 HCo H4
    generalize F x1 = W5 at *
    have z4 := (H5.out.pull 1 rfl).free 4 rfl
    have c4 := (H5.out.pull 1 rfl).cell 4 rfl
    have H6 : Hid (Hp o (W5.setCell ⟨T, 4, none⟩ (.int .i64 q)) (cellsT B0 [.int .i64 i.k, .string i.t, .slice a i.l.length c] :: cellsT T [.pointer (some ⟨E, 0, none⟩), .slice (some ⟨gb, 0, none⟩) P.length rc, .pointer (some ⟨U, 0, none⟩), .pointer (some ⟨X, 0, none⟩), .int .i64 q, .int .i64 m.b, ev] :: tabT E f P.length :: rowsT (.slice (some ⟨gb, 0, none⟩) P.length rc) P :: roT (rowsR P) :: recT U m.K :: expT X m.S :: evsT ev m.ev :: roT (itemR a c i) :: l)) := Lib.hid (((H5.out.pull 1 rfl).cellSet 4 (.int .i64 q) rfl).push 1)
    go_upto_region 5 with fail
    generalize W5.setCell ⟨T, 4, none⟩ (.int .i64 q) = W6 at *
    clear c4 z4 H5 hwq hq HQ0
    obtain ⟨F, hF⟩ : ∃ F : Nat → World, ∀ x, F x = W6.drewN x := ⟨fun x => W6.drewN x, fun _ => rfl⟩
    have f1 : ∀ x, (F x).cell? ⟨T, 1, none⟩ = some (.slice (some ⟨gb, 0, none⟩) P.length rc) := fun x => by rw [hF]; exact (H6.out.pull 1 rfl).cell 1 rfl
    have b0 : ∀ x, (F x).cell? ⟨B0, 0, none⟩ = some (.int .i64 i.k) := fun x => by rw [hF]; exact H6.out.cell 0 rfl
    have b1 : ∀ x, (F x).cell? ⟨B0, 1, none⟩ = some (.string i.t) := fun x => by rw [hF]; exact H6.out.cell 1 rfl
    have b2 : ∀ x, (F x).cell? ⟨B0, 2, none⟩ = some (.slice a i.l.length c) := fun x => by rw [hF]; exact H6.out.cell 2 rfl
    have f6 : ∃ x, W6.drew = F x := ⟨1, by rw [hF]; rfl⟩
    have HFx := Lib.hid hF
    clear hF
    refine Go.Proofs.YtmjlhmohglbecaaGreatDoor.wp_region_tail F 6 (by kernel_rfl) (by kernel_rfl) f6 ?_
    simp only [List.take_succ_cons, List.take_zero, List.drop_succ_cons, List.drop_zero]
    repeat (go_big_quiet_step (fail))
    refine wpQuiet_nil ?_
    intro x2
    have H7 := Lib.hid (H6.out.bel (w' := F x2) (by rw [HFx.out]; exact Ta.drewN_below W6 x2))
    clear f1 b0 b1 b2 f6 HFx H6
    generalize F x2 = W7 at *
    obtain ⟨e0, e1, e2, e3⟩ := row_cells (H7.out.pull 3 rfl) HJ.out
    have z0 := (H7.out.pull 3 rfl).rowFrozen (j * 4)
    have z1 := (H7.out.pull 3 rfl).rowFrozen (j * 4 + 1)
    have z2 := (H7.out.pull 3 rfl).rowFrozen (j * 4 + 2)
    have z3 := (H7.out.pull 3 rfl).rowFrozen (j * 4 + 3)
    have H8 := Lib.hid (row_set3 (H7.out.pull 3 rfl) HJ.out i a c)
    have HZ : Hid (SetR T o (((W7.setCell ⟨gb, j * 4 + 1, none⟩ (.int .i64 i.k)).setCell ⟨gb, j * 4 + 1 + 1, none⟩ (.string i.t)).setCell ⟨gb, j * 4 + 1 + 2, none⟩ (.slice a i.l.length c)) l m k i E U X ev (.slice (some ⟨gb, 0, none⟩) P.length rc) (P.set j ⟨k, i, a, c⟩) f q) := Lib.hid (by
      have h8 := H8.out
      rw [HPK.out] at h8
      have hpk := HPK.out
      refine ⟨?_, HTf.out.set HJ.out (q := ⟨k, i, a, c⟩) hpk.symm, ?_, set_updW HJ.out HPK.out HTf.out.nodup HR.out.it, HQN.out⟩
      · have g1 := h8.push 3
        have g2 := Hp.dropAt g1 0 rfl
        have g3 := (g2.pull 7 rfl)
        have g4 := ro_two (r := rowsR (P.set j ⟨k, i, a, c⟩)) (g3.pull 4 rfl) (fun h1 h2 q hq => by
          rcases List.mem_or_eq_of_mem_set hq with hq | hq
          · exact h1 q hq
          · rw [hq]; exact h2)
        have g5 := g4.push 3
        rw [List.length_set]
        exact g5
      · rw [set_keys HJ.out (q := ⟨k, i, a, c⟩) hpk.symm]
        exact HR.out.pm.trans (touchK_permIn HKn.out HKM.out))
    clear H8 H7
    go_wp2_with fail
    first
    | (go_end0; exact ⟨rfl, _, _, _, _, _, _, _, _, HZ.out⟩)
    | (go_ret; exact ⟨rfl, _, _, _, _, _, _, _, _, HZ.out⟩)
    | exact bodyPost_ret (results_none rfl _ _ _) rfl ⟨rfl, _, _, _, _, _, _, _, _, HZ.out⟩
end
end Go.Proofs.YtmjlhmohglbecaaGreatDoor.Sa
/- Package store: evict, empty, New, Flush, Bytes, Events, Sweep. Conditions: a Store as it lies; the library's variables hold what start-up lays; bounds. -/
namespace Go.Proofs.YtmjlhmohglbecaaGreatDoor.Sa
set_option linter.unusedVariables false
set_option linter.unusedSimpArgs false
open Go.ChangeShapes Go.WideShapes Go.ChangeAt Go.RowKit
open Sp (Th Hp Stays All Ro roT rowT cellsT exT puT star)
section
variable {o w w' wb : World} {l : List Th} {T : Nat} {m : Md}
/-- What eviction comes by. -/
structure EvI (m : Md) (k : ByteArray) (c : Md) : Prop where
  pre : Pre c
  e : evM c = evM m
  f : c.f = m.f
  b : c.b = m.b
  la : ∃ B, c.K = B ++ [k]
  kl : c.K.length ≤ m.K.length
  el : c.ev.length + c.K.length ≤ m.ev.length + m.K.length
theorem EvI.step {k : ByteArray} {c : Md} (h : EvI m k c) (hc : (costN k (m.f k) : Int) ≤ m.b) (hb : c.b < (sumB c.f c.K : Int)) : ∃ x y r, c.K = x :: y :: r ∧ Ca.oldK k c.K = some x ∧ goneM x 4 c = loseM x 4 c ∧ EvI m k (loseM x 4 c) := by
  obtain ⟨B, hB⟩ := h.la
  cases B with
  | nil =>
    rw [hB] at hb
    have e1 : sumB c.f ([] ++ [k]) = costN k (c.f k) := by rw [List.nil_append, sumB_cons]; simp [sumB]
    rw [e1, h.f, h.b] at hb
    omega
  | cons x B =>
    have hk := lose_head h.pre.kn (x := x) (r := B ++ [k]) hB 4
    have hn := h.pre.kn
    rw [hB] at hn
    have hx := List.nodup_cons.1 hn
    have hxk : x ≠ k := fun e => hx.1 (by rw [e]; simp)
    obtain ⟨y, r, hyr⟩ : ∃ y r, B ++ [k] = y :: r := by
      cases B with
      | nil => exact ⟨k, [], rfl⟩
      | cons y r => exact ⟨y, r ++ [k], rfl⟩
    have hK : c.K = x :: y :: r := by rw [hB, List.cons_append, hyr]
    have hin : Ca.inK x c.K = true := Ca.inK_iff.2 (by rw [hB]; simp)
    refine ⟨x, y, r, hK, ?_, by unfold goneM; rw [hin]; rfl, h.pre.lose x 4 (by decide) (by decide), ?_, h.f, h.b, ⟨B, hk⟩, ?_, ?_⟩
    · rw [hK]
      unfold Ca.oldK
      rw [List.find?_cons_of_pos (by simpa using hxk)]
    · rw [← h.e]
      exact (evM_step h.pre.kn hK hb).symm
    · rw [hk]
      have := h.kl
      rw [hB] at this
      simp at this ⊢
      omega
    · rw [hk, lose_ev]
      have := h.el
      rw [hB] at this
      simp at this ⊢
      omega
theorem EvI.stop {k : ByteArray} {c : Md} (h : EvI m k c) (hb : ¬ c.b < (sumB c.f c.K : Int)) : c = evM m := by
  rw [← h.e]
  exact (evF_stop (.inl (by omega)) _).symm
set_option maxHeartbeats 4000000 in
set_option maxRecDepth 100000 in
theorem evict_calls (h : Hp o w (storeT T m :: l)) (hw : Below w.heap.size w wb) (hc : Ctx o) (k : ByteArray) (hp : Pre m) (hl : ∃ B, m.K = B ++ [k]) (hcost : (costN k (m.f k) : Int) ≤ m.b) (hn : m.K.length ≤ 400) (he : m.ev.length ≤ 100000) :
    Calls Tryz.prog 53 #[ptr T, .string k] wb fun e w' => e = .returned (.tuple #[]) ∧ Hp o w' (storeT T (evM m) :: l) := by
  have HH := Lib.hid (h.bel hw)
  have HI : Hid (EvI m k m) := Lib.hid ⟨hp, rfl, rfl, rfl, hl, Nat.le_refl _, Nat.le_refl _⟩
  have HC := Lib.hid hcost
  clear h hw hp hl hcost
  unfold ptr at *
  go_enter Tryz.func53, Tryz.ntmps53
  go_wp2_with fail
  go_loopg [4, 5, 6, 7, 8, 9, 10, 11, 12, 13, 14, 15, 16, 17, 18, 19, 20, 21, 22, 23, 24, 25, 26] (m.K.length + 1) (fun g _ _ _ _ _ _ _ _ _ _ _ _ _ _ _ _ _ _ _ _ _ _ _ wr => ∃ c : Md, c.K.length ≤ g ∧ Hid (EvI m k c) ∧ Hid (Hp o wr (storeT T c :: l)))
  case atStart => exact ⟨m, by omega, HI, HH⟩
  case round =>
    obtain ⟨c, hg, HE, HS⟩ := hrel
    obtain ⟨E, U, X, rv, P, f, ev, gn, hr, h⟩ := store_open2 HS.out
    have HGn : Hid (gn = sumB c.f c.K) := Lib.hid hr.n
    have c4 := h.cell 4 rfl
    have c5 := h.cell 5 rfl
    have H0 := Lib.hid h
    have hkl := HE.out.kl
    have hel := HE.out.el
    clear h hr HH HI
    by_cases hb : c.b < gn
    · obtain ⟨x, y, r, hK, hold, hgl, hI2⟩ := HE.out.step HC.out (by rw [← HGn.out]; exact hb)
      have hxk : x.size ≤ 512 := HE.out.pre.kz x (by rw [hK]; simp)
      have HLn : Hid ((loseM x 4 c).K.length < c.K.length) := Lib.hid (by rw [lose_head HE.out.pre.kn hK]; rw [hK]; simp)
      have HGL := Lib.hid hgl
      have HI2 := Lib.hid hI2
      have HOl := Lib.hid hold
      clear hK hold hgl hI2
      go_wp2_with fail
      go_quiet (fail)
      have H1 := Lib.hid (H0.out.bel (Ta.drewN_below wr nq))
      have HS1 := Lib.hid (HS.out.bel (Ta.drewN_below wr nq))
      generalize wr.drewN nq = W1 at *
      clear c4 c5 H0 HS
      have c2 := H1.out.cell 2 rfl
      have HOd := Lib.hid (rec_oldest (H1.out.pull 4 rfl) (Below.refl _ _) k (some x) HOl)
      have HLs := Lib.hid (lose_calls HS1.out (Below.refl _ _) hc x (by omega) 4 (by decide) (by decide) (by omega) (by omega))
      unfold ptr at HLs
      clear H1 HS1
      go_wp2_with fail
      refine HOd.out.mono ?_; rintro en w2 ⟨rfl, rfl⟩
      go_wp2_with fail
      refine HLs.out.mono ?_; rintro en w3 ⟨rfl, h3⟩
      rw [HGL.out] at h3
      have H3 := Lib.hid h3
      clear h3 HLs HOd c2
      have hlt := HLn.out
      go_wp2_with fail
      go_roundg (gk - 1)
      case measure => omega
      case rel => exact ⟨loseM x 4 c, by omega, HI2, H3⟩
    · have HF : Hid (c = evM m) := Lib.hid (HE.out.stop (by rw [← HGn.out]; exact hb))
      go_wp2_with fail
      go_quiet (fail)
      have HS1 := Lib.hid (HS.out.bel (Ta.drewN_below wr nq))
      generalize wr.drewN nq = W1 at *
      clear c4 c5 H0 HS
      go_wp2_with fail
      go_end0
      refine ⟨rfl, ?_⟩
      rw [← HF.out]
      exact HS1.out
theorem ro_new (h : Hp o w l) (r : Ro) (hr : ∀ R, r.P R w) : Hp o w (roT r :: l) := by
  obtain ⟨O, R, h1, h2⟩ := h
  exact ⟨O, R, ⟨fun _ => False, O, ⟨fun _ h => h, hr R⟩, h1, fun _ h => h.elim, fun x => by simp⟩, h2⟩
set_option maxHeartbeats 4000000 in
set_option maxRecDepth 100000 in
theorem empty_calls {v0 v1 v2 v3 v4 v5 v6 : Value} (h : Hp o w (cellsT T [v0, v1, v2, v3, v4, v5, v6] :: l)) (hw : Below w.heap.size w wb) :
    Calls Tryz.prog 25 #[ptr T] wb fun e w' => e = .returned (.tuple #[]) ∧ ∃ E U X, Hp o w' (cellsT T [.pointer (some ⟨E, 0, none⟩), .slice none 0 0, .pointer (some ⟨U, 0, none⟩), .pointer (some ⟨X, 0, none⟩), .int .i64 0, v5, v6] :: tabT E (fun _ => none) 0 :: rowsT (.slice none 0 0) [] :: roT (rowsR []) :: recT U [] :: expT X [] :: l) := by
  have H0 := Lib.hid (h.bel hw)
  have HN := Lib.hid (tab_new H0.out (Below.refl _ _))
  clear h hw
  unfold ptr at *
  go_enter Tryz.func25, Tryz.ntmps25
  go_wp2_with fail
  refine HN.out.mono ?_; rintro en w1 ⟨E, rfl, h1, -⟩
  have H1 := Lib.hid (h1.pull 1 rfl)
  clear h1 HN H0
  have c0 := H1.out.cell 0 rfl
  have z0 := H1.out.free 0 rfl
  have H2 := Lib.hid (H1.out.cellSet 0 (.pointer (some ⟨E, 0, none⟩)) rfl)
  have c1 := H2.out.cell 1 rfl
  have z1 := H2.out.free 1 rfl
  have H3 := Lib.hid (H2.out.cellSet 1 (.slice none 0 0) rfl)
  go_upto_region 1 with fail
  generalize (w1.setCell ⟨T, 0, none⟩ (.pointer (some ⟨E, 0, none⟩))).setCell ⟨T, 1, none⟩ (.slice none 0 0) = W3 at *
  clear c0 z0 c1 z1 H1 H2
  have HN := Lib.hid (rec_new H3.out (Below.refl _ _))
  go_wp2_with fail
  refine HN.out.mono ?_; rintro en w4 ⟨U, rfl, h4, -⟩
  have H4 := Lib.hid h4
  clear h4 HN H3
  have HN := Lib.hid (exp_new H4.out (Below.refl _ _))
  go_wp2_with fail
  refine HN.out.mono ?_; rintro en w5 ⟨X, rfl, h5, -⟩
  have H5 := Lib.hid (h5.pull 2 rfl)
  clear h5 HN H4
  have c2 := H5.out.cell 2 rfl
  have z2 := H5.out.free 2 rfl
  have H6 := Lib.hid (H5.out.cellSet 2 (.pointer (some ⟨U, 0, none⟩)) rfl)
  have c3 := H6.out.cell 3 rfl
  have z3 := H6.out.free 3 rfl
  have H7 := Lib.hid (H6.out.cellSet 3 (.pointer (some ⟨X, 0, none⟩)) rfl)
  go_upto_region 2 with fail
  generalize (w5.setCell ⟨T, 2, none⟩ (.pointer (some ⟨U, 0, none⟩))).setCell ⟨T, 3, none⟩ (.pointer (some ⟨X, 0, none⟩)) = W7 at *
  clear c2 z2 c3 z3 H5 H6
  have c4 := H7.out.cell 4 rfl
  have z4 := H7.out.free 4 rfl
  have H8 := Lib.hid (H7.out.cellSet 4 (.int .i64 0) rfl)
  go_wp2_with fail
  go_end0
  refine ⟨rfl, E, U, X, ?_⟩
  have h8 : Hp o (W7.setCell ⟨T, 4, none⟩ (.int .i64 0)) (cellsT T [.pointer (some ⟨E, 0, none⟩), .slice none 0 0, .pointer (some ⟨U, 0, none⟩), .pointer (some ⟨X, 0, none⟩), .int .i64 0, v5, v6] :: expT X [] :: recT U [] :: tabT E (fun _ => none) 0 :: l) := H8.out
  have h9 := (h8.pull 3 rfl).push 1
  have h10 := (h9.pull 2 rfl).push 3
  have h11 := (h10.rowNil 100 4).push 2
  exact (ro_new h11 (rowsR []) (fun R p hp => by cases hp)).push 3
def zero7 (b : Int) : List Value := [.pointer none, .slice none 0 0, .pointer none, .pointer none, .int .i64 0, .int .i64 b, .slice none 0 0]
theorem rep_nil {E U X : Nat} {ev : Value} {m : Md} (hp : Pre m) (hK : m.K = []) : Rep ⟨E, U, X, .slice none 0 0, [], fun _ => none, ev, 0⟩ m :=
  ⟨TabOf.nil, (by rw [hK]; exact List.Perm.refl _), (fun p hp => by cases hp), (by rw [hK]; simp [sumB]), hp⟩
set_option maxHeartbeats 4000000 in
set_option maxRecDepth 100000 in
theorem new_calls (h : Hp o w l) (hw : Below w.heap.size w wb) (b : Int) :
    Calls Tryz.prog 8 #[.int .i64 b] wb fun e w' => ∃ T, e = .returned (ptr T) ∧ Hp o w' (storeT T (newM b) :: l) := by
  have hb := (h.bel hw).cellsNew (zero7 (budOf b)) 43
  have HE : Hid (∀ W, Hp o W (cellsT wb.heap.size (zero7 (budOf b)) :: l) → Calls Tryz.prog 25 #[.pointer (some ⟨wb.heap.size, 0, none⟩)] W fun e w' => e = .returned (.tuple #[]) ∧ ∃ E U X, Hp o w' (cellsT wb.heap.size [.pointer (some ⟨E, 0, none⟩), .slice none 0 0, .pointer (some ⟨U, 0, none⟩), .pointer (some ⟨X, 0, none⟩), .int .i64 0, .int .i64 (budOf b), .slice none 0 0] :: tabT E (fun _ => none) 0 :: rowsT (.slice none 0 0) [] :: roT (rowsR []) :: recT U [] :: expT X [] :: l)) := Lib.hid fun W hW => empty_calls (T := wb.heap.size) hW (Below.refl _ _)
  have H0 := Lib.hid hb
  unfold zero7 budOf at H0
  have HO : Hid (Pre (newM b)) := Lib.hid (Ok.new b).toPre
  clear h hw hb
  go_enter Tryz.func8, Tryz.ntmps8
  go_wp2_with fail
  generalize wb.alloc (.cells #[.pointer none, .slice none 0 0, .pointer none, .pointer none, .int .i64 0, .int .i64 (min (max b 0) 1000000000000), .slice none 0 0] 43) = W0 at *
  generalize wb.heap.size = B0 at *
  have HE1 := Lib.hid (HE.out W0 H0.out)
  clear HE H0
  refine HE1.out.mono ?_; rintro en w2 ⟨rfl, E, U, X, h2⟩
  have H2 := Lib.hid h2
  clear h2 HE1
  go_wp2_with fail
  go_ret
  refine ⟨B0, rfl, store_shut2 (m := newM b) (ev := .slice none 0 0) (E := E) (U := U) (X := X) (rep_nil HO.out rfl) rfl rfl rfl rfl ?_⟩
  exact (H2.out.rowNil 62 2).push 6
set_option maxHeartbeats 4000000 in
set_option maxRecDepth 100000 in
theorem flush_calls (h : Hp o w (storeT T m :: l)) (hw : Below w.heap.size w wb) (hok : Ok m) (he : m.ev.length ≤ 1000000) :
    Calls Tryz.prog 39 #[ptr T] wb fun e w' => e = .returned (.tuple #[]) ∧ Hp o w' (storeT T (flushM m) :: l) := by
  obtain ⟨E, U, X, rv, P, f, ev, gn, hr, h⟩ := store_open2 (h.bel hw)
  have h1 : Hp o wb (cellsT T [.pointer (some ⟨E, 0, none⟩), rv, .pointer (some ⟨U, 0, none⟩), .pointer (some ⟨X, 0, none⟩), .int .i64 gn, .int .i64 m.b, ev] :: evsT ev m.ev :: l) := ((((Hp.dropAt h 1 rfl).dropAt 1 rfl).dropAt 1 rfl).dropAt 1 rfl).dropAt 1 rfl
  have HE := Lib.hid (empty_calls h1 (Below.refl _ _))
  have HO := Lib.hid hok.flush.toPre
  clear h h1 hr hw
  unfold ptr at *
  go_enter Tryz.func39, Tryz.ntmps39
  go_wp2_with fail
  refine HE.out.mono ?_; rintro en w2 ⟨rfl, E2, U2, X2, h2⟩
  have HT := Lib.hid (tell_calls ((h2.pull 6 rfl).push 1) (Below.refl _ _) 5 ⟨#[]⟩ he)
  unfold ptr at HT
  clear h2 HE
  go_wp2_with fail
  refine HT.out.mono ?_; rintro en w3 ⟨rfl, ev', h3⟩
  have H3 := Lib.hid ((h3.pull 1 rfl).push 6)
  clear h3 HT
  go_wp2_with fail
  go_end0
  exact ⟨rfl, store_shut2 (m := flushM m) (E := E2) (U := U2) (X := X2) (rep_nil HO.out rfl) rfl rfl rfl rfl H3.out⟩
set_option maxHeartbeats 4000000 in
theorem bytes_calls (h : Hp o w (storeT T m :: l)) (hw : Below w.heap.size w wb) :
    Calls Tryz.prog 12 #[ptr T] wb fun e w' => e = .returned (.int .i64 (sumB m.f m.K : Nat)) ∧ wb = w' := by
  obtain ⟨E, U, X, rv, P, f, ev, gn, hr, h⟩ := store_open2 (h.bel hw)
  have hn : gn = sumB m.f m.K := hr.n
  have c4 := h.cell 4 rfl
  rw [hn] at c4
  clear h hr hn hw
  unfold ptr at *
  go_enter Tryz.func12, Tryz.ntmps12
  go_wp2_with fail
  go_ret
  exact ⟨rfl, rfl⟩
set_option maxHeartbeats 4000000 in
theorem events_calls (h : Hp o w (storeT T m :: l)) (hw : Below w.heap.size w wb) (hok : Ok m) :
    Calls Tryz.prog 15 #[ptr T] wb fun e w' => ∃ v, e = .returned v ∧ Hp o w' (evsT v m.ev :: storeT T (toldM m) :: l) := by
  obtain ⟨E, U, X, rv, P, f, ev, gn, hr, h⟩ := store_open2 (h.bel hw)
  have c6 := h.cell 6 rfl
  have z6 := h.free 6 rfl
  obtain ⟨ea, ec, rfl, -, -, -⟩ := (h.pull 6 rfl).rowForm
  have HR := Lib.hid (hr.turn (m' := toldM m) rfl rfl hok.told.toPre rv (.slice none 0 0))
  have H1 := Lib.hid (h.cellSet 6 (.slice none 0 0) rfl)
  clear h hr hw
  unfold ptr at *
  go_enter Tryz.func15, Tryz.ntmps15
  go_wp2_with fail
  go_ret
  refine ⟨_, rfl, ?_⟩
  have h2 := H1.out.pull 6 rfl
  have h3 := (h2.rowNil 62 2).push 7
  have h4 := (h3.pull 0 rfl).push 7
  exact (store_shut2 (m := toldM m) HR.out rfl rfl rfl rfl h4).pull 1 rfl
/-- What Sweep lets go. -/
def dueK (now most : Int) (m : Md) : List ByteArray := (Ea.dueD now most.toNat m.S).map (·.2)
theorem dueK_len (now most : Int) (m : Md) : (dueK now most m).length ≤ m.S.length := by
  unfold dueK Ea.dueD
  rw [List.length_map]
  exact Nat.le_trans (List.length_take_le' _ _) (List.length_filter_le _ _)
theorem dueK_mem {now most : Int} {m : Md} {k : ByteArray} (h : k ∈ dueK now most m) : ∃ t, (t, k) ∈ m.S ∧ t ≤ now := by
  unfold dueK Ea.dueD at h
  obtain ⟨d, hd, rfl⟩ := List.mem_map.1 h
  have := List.mem_filter.1 (List.mem_of_mem_take hd)
  exact ⟨d.1, this.1, by simpa using this.2⟩
theorem swM_ev : ∀ (l : List ByteArray) (m : Md), (swM l m).ev.length ≤ m.ev.length + l.length
  | [], _ => Nat.le_refl _
  | k :: r, m => by
    have h1 := swM_ev r (goneM k 3 m)
    have h2 := gone_ev k 3 m
    show (swM r (goneM k 3 m)).ev.length ≤ _
    rw [List.length_cons]
    omega
theorem swM_take {l : List ByteArray} {i : Nat} (hi : i < l.length) (m : Md) : swM (l.take (i + 1)) m = goneM l[i] 3 (swM (l.take i) m) := by
  rw [← List.take_append_getElem hi, swM_app]
  rfl
set_option maxHeartbeats 4000000 in
set_option maxRecDepth 100000 in
theorem sweep_calls (h : Hp o w (storeT T m :: l)) (hw : Below w.heap.size w wb) (hok : Ok m) (hc : Ctx o) (now most : Int) (hm1 : -9223372036854775808 ≤ most) (hm2 : most ≤ 9223372036854775807) (hn : m.K.length ≤ 400) (he : m.ev.length ≤ 100000) :
    Calls Tryz.prog 37 #[ptr T, .int .i64 now, .int .i64 most] wb fun e w' => e = .returned (.int .i64 (dueK now most m).length) ∧ Hp o w' (storeT T (swM (dueK now most m) m) :: l) := by
  have HS := Lib.hid (h.bel hw)
  obtain ⟨E, U, X, rv, P, f, ev, gn, hr, h⟩ := store_open2 (h.bel hw)
  have c3 := h.cell 3 rfl
  have hsl := hok.sl
  have HX := Lib.hid (exp_due (h.pull 5 rfl) (Below.refl _ _) (by omega) now most hm1 hm2)
  have hdl : (dueK now most m).length ≤ 400 := by have := dueK_len now most m; omega
  have HKz : Hid (∀ k ∈ dueK now most m, k.size ≤ 512) := Lib.hid fun k hk => by
    obtain ⟨t, ht, -⟩ := dueK_mem hk
    exact hok.kz k (hok.sk _ ht)
  rw [show (Ea.dueD now most.toNat m.S).map (·.2) = dueK now most m from rfl] at HX
  have HO := Lib.hid hok
  generalize dueK now most m = L at *
  clear h hr hw hok
  unfold ptr at *
  go_enter Tryz.func37, Tryz.ntmps37
  go_wp2_with fail
  refine HX.out.mono ?_; rintro en w1 ⟨v, rfl, hR⟩
  have H1 := Lib.hid (HS.out.rowAdd hR.bel hR.row (Nat.le_refl _))
  obtain ⟨a, cc, rfl, -, hcc, ha⟩ := H1.out.rowForm
  clear hR HX HS c3
  go_wp2_with fail
  go_loopg [9, 19, 20, 21, 22, 23, 24, 25, 26] (L.length + 1) (fun g _ vi _ _ _ _ _ _ _ wr => ∃ i : Nat, vi = .int .i64 i ∧ i ≤ L.length ∧ L.length - i ≤ g ∧ Hid (Hp o wr (rowT 9 1 (.slice a L.length cc) L.length (Ea.cellsT L) :: storeT T (swM (L.take i) m) :: l)))
  case atStart => exact ⟨0, rfl, by omega, by omega, H1⟩
  case round =>
    obtain ⟨i, rfl, hi, hg, H2⟩ := hrel
    clear H1
    by_cases hil : i < L.length
    · have hic : (i : Int) < (L.length : Int) := by omega
      obtain ⟨gb, rfl⟩ := ha (by omega)
      have d0 : wr.cell? ⟨gb, i, none⟩ = some (.string L[i]) := by
        have := H2.out.rowCell (j := i) (by omega)
        rw [this]
        unfold Ea.cellsT
        rw [List.getElem?_map, List.getElem?_eq_getElem hil]; rfl
      have h1 := sw_len (L.take i) m
      have h2 := swM_ev (L.take i) m
      have h3 : (L.take i).length ≤ 400 := by rw [List.length_take]; omega
      have hkz := HKz.out L[i] (List.getElem_mem hil)
      have HT := Lib.hid (swM_take hil m)
      have HLs := Lib.hid (lose_calls (H2.out.pull 1 rfl) (Below.refl _ _) hc L[i] (by omega) 3 (by decide) (by decide) (by omega) (by omega))
      unfold ptr at HLs
      clear ha
      generalize L[i] = x at *
      go_wp2_with fail
      refine HLs.out.mono ?_; rintro en w3 ⟨rfl, h3⟩
      have H3 := Lib.hid (h3.push 1)
      rw [← HT.out] at H3
      clear h3 HLs d0 HT H2
      go_wp2_with fail
      go_roundg (gk - 1)
      case measure => omega
      case rel => exact ⟨i + 1, by go_num, by omega, by omega, H3⟩
    · have hic : ¬ ((i : Int) < (L.length : Int)) := by omega
      obtain rfl : i = L.length := by omega
      go_wp2_with fail
      go_ret
      have h9 := H2.out.drop
      rw [List.take_length] at h9
      exact ⟨rfl, h9⟩
end
end Go.Proofs.YtmjlhmohglbecaaGreatDoor.Sa
/- Package store: Peek, Get. Conditions: a Store as it lies; the library's variables hold what start-up lays; bounds. -/
namespace Go.Proofs.YtmjlhmohglbecaaGreatDoor.Sa
set_option linter.unusedVariables false
set_option linter.unusedSimpArgs false
open Go.ChangeShapes Go.WideShapes Go.ChangeAt Go.RowKit
open Sp (Th Hp Stays All Ro roT rowT cellsT exT puT star)
def zeroI : Ia.It := ⟨0, ⟨#[]⟩, []⟩
/-- What a key has, or none. -/
def gotI (k : ByteArray) (m : Md) : Ia.It := if Ca.inK k m.K = true then m.f k else zeroI
section
variable {o w w' wb : World} {l : List Th} {T : Nat} {m : Md}
/-- Fields that a call made: no one writes them. -/
theorem item_new {v : Value} {fl : List Ia.Fd} (h : Hp o w l) (hR : Ia.RowF w w' v fl) : ∃ a c, v = .slice a fl.length c ∧ ∀ k t, Hp o w' (roT (itemR a c ⟨k, t, fl⟩) :: l) := by
  obtain ⟨a, c, rfl, h1, h2, h3⟩ := hR.slice
  refine ⟨a, c, rfl, fun k t => ?_⟩
  refine (h.rowAdd hR.bel hR.row (Nat.le_refl _)).rowGive (itemR a c ⟨k, t, fl⟩) fun {R} hr => ⟨h1, h2, fun hp => ?_⟩
  obtain ⟨b, o2, rfl, -, hc⟩ := h3 hp
  exact ⟨b, o2, rfl, hr b rfl, hc⟩
theorem item_inF {a : Option Addr} {c : Nat} {i : Ia.It} (h : Hp o w (roT (itemR a c i) :: l)) : Ia.InF w a i.l := h.say fun hp _ hR => (hp.2.2.2).inF hR
theorem item_cap {a : Option Addr} {c : Nat} {i : Ia.It} (h : Hp o w (roT (itemR a c i) :: l)) : i.l.length ≤ c ∧ c ≤ 9223372036854775807 := h.say fun hp _ hR => ⟨hp.2.1, hp.2.2.1⟩
set_option maxHeartbeats 4000000 in
set_option maxRecDepth 100000 in
theorem peek_calls (h : Hp o w (storeT T m :: l)) (hw : Below w.heap.size w wb) (hok : Ok m) (hc : Ctx o) (k : ByteArray) (hk : k.size ≤ 1000) (now : Int) (hn : m.K.length ≤ 400) (he : m.ev.length ≤ 100000) :
    Calls Tryz.prog 20 #[ptr T, .string k, .int .i64 now] wb fun e w' => ∃ a c, e = .returned (.tuple #[itV a c (gotI k (endM k now m)), .bool (Ca.inK k (endM k now m).K)]) ∧ Hp o w' (roT (itemR a c (gotI k (endM k now m))) :: storeT T (endM k now m) :: l) := by
  have h0 := (h.bel hw).cellsNew [.int .i64 0, .string ⟨#[]⟩, .slice none 0 0] 31
  have HH : Hid (Hp o (wb.alloc (.cells #[.int .i64 0, .string ⟨#[]⟩, .slice none 0 0] 31)) (cellsT wb.heap.size [.int .i64 0, .string ⟨#[]⟩, .slice none 0 0] :: storeT T m :: l)) := Lib.hid h0
  have HE := Lib.hid (end_calls (HH.out.pull 1 rfl) (Below.refl _ _) hc k hk now hn (by omega))
  have HO := Lib.hid (hok.end_ k now)
  have h1 := end_len k now m
  have HGI : Hid (gotI k (endM k now m) = if Ca.inK k (endM k now m).K = true then (endM k now m).f k else zeroI) := Lib.hid rfl
  clear h hw hok h0
  generalize endM k now m = m1 at *
  unfold ptr at *
  go_enter Tryz.func20, Tryz.ntmps20
  go_wp2_with fail
  generalize wb.alloc (.cells #[.int .i64 0, .string ⟨#[]⟩, .slice none 0 0] 31) = W0 at *
  generalize wb.heap.size = B0 at *
  refine HE.out.mono ?_; rintro en w1 ⟨rfl, H1⟩
  have H1 := Lib.hid H1
  clear HE HH
  obtain ⟨E, U, X, rv, P, f, ev, gn, hr, h⟩ := store_open2 H1.out
  have HIk : Hid ((f k).isSome = Ca.inK k m1.K) := Lib.hid (hr.mem k)
  have c0 := h.cell 0 rfl
  have HT := Lib.hid (tab_get (h.pull 1 rfl) (Below.refl _ _) k hk)
  rw [HIk.out] at HT
  have HR := Lib.hid hr
  clear h hr
  go_wp2_with fail
  refine HT.out.mono ?_; rintro en w2 ⟨rfl, h2, -⟩
  have H2 := Lib.hid (h2.push 1)
  clear h2 HT c0 H1
  cases hin : Ca.inK k m1.K with
  | false =>
    have HGV : Hid (gotI k m1 = zeroI) := Lib.hid (by rw [HGI.out, hin, if_neg (by decide)])
    have HIN := Lib.hid hin
    have h3 := store_shut2 (m := m1) HR.out rfl rfl rfl rfl H2.out
    have H3 : Hid (Hp o w2 (cellsT B0 [.int .i64 0, .string ⟨#[]⟩, .slice none 0 0] :: storeT T m1 :: l)) := Lib.hid (h3.pull 1 rfl)
    have b0 := H3.out.cell 0 rfl
    have b1 := H3.out.cell 1 rfl
    have b2 := H3.out.cell 2 rfl
    have z0 := H3.out.free 0 rfl
    have z1 := H3.out.free 1 rfl
    have z2 := H3.out.free 2 rfl
    have H4 := Lib.hid (((H3.out.cellSet 0 (.int .i64 0) rfl).cellSet 1 (.string ⟨#[]⟩) rfl).cellSet 2 (.slice none 0 0) rfl)
    clear h3 hin H2 HGI H3
    go_wp2_with fail
    generalize ((w2.setCell ⟨B0, 0, none⟩ (.int .i64 0)).setCell ⟨B0, 1, none⟩ (.string ⟨#[]⟩)).setCell ⟨B0, 2, none⟩ (.slice none 0 0) = W3 at *
    clear b0 b1 b2 z0 z1 z2
    have b0 := H4.out.cell 0 rfl
    have b1 := H4.out.cell 1 rfl
    have b2 := H4.out.cell 2 rfl
    refine bodyPost_ret (v := .tuple #[.agg #[.int .i64 0, .string ⟨#[]⟩, .slice none 0 0], .bool false]) ?_ rfl ⟨none, 0, ?_, ?_⟩
    · rw [results_cell_tmp rfl]
      simp [asAddr, Result.andThen, go_sem, b0, b1, b2]
    · rw [HGV.out, HIN.out]; rfl
    · rw [HGV.out]
      exact ro_new H4.out.drop _ fun R => ⟨Nat.le_refl _, by decide, fun hp => absurd hp (by decide)⟩
  | true =>
    obtain ⟨j, hj, hpk, hfj, hpi⟩ : ∃ j, ∃ hj : j < P.length, P[j].k = k ∧ f k = some (j : Int) ∧ P[j].i = m1.f k := HR.out.rowOf hin
    have HGV : Hid (gotI k m1 = m1.f k) := Lib.hid (by rw [HGI.out, hin, if_pos rfl])
    have HIN := Lib.hid hin
    rw [hfj]
    have hfl : (m1.f k).l.length ≤ 256 := by
      rcases HO.out.ri k (Ca.inK_iff.1 hin) with hh | hh
      · have := hh.2.2; omega
      · exact hh.2.2.2.1
    obtain ⟨ra, rc, rfl, -, hrc, ha⟩ := (H2.out.pull 2 rfl).rowForm
    obtain ⟨gb, rfl⟩ := ha (by omega)
    obtain ⟨-, d1, d2, d3⟩ := row_cells (H2.out.pull 2 rfl) hj
    have c1 := H2.out.cell 1 rfl
    have hin1 : Ia.InF w2 P[j].a P[j].i.l := (H2.out.pull 3 rfl).say fun {A R} hp _ hR => ((hp.2 _ (List.getElem_mem hj)).2.2).inF hR
    rw [hpi] at d1 d2 d3 hin1
    have hjc : (j : Int) < (P.length : Int) := by omega
    have HCp := Lib.hid (Ia.copy_calls w2 (m1.f k).k (m1.f k).t P[j].a P[j].c _ (m1.f k).l rfl hin1 (by omega))
    have h3 := store_shut2 (m := m1) HR.out rfl rfl rfl rfl H2.out
    have H3 : Hid (Hp o w2 (cellsT B0 [.int .i64 0, .string ⟨#[]⟩, .slice none 0 0] :: storeT T m1 :: l)) := Lib.hid (h3.pull 1 rfl)
    clear h3 hin H2 HGI hin1 hpk hfj hpi ha
    generalize P[j].a = pa at *
    generalize P[j].c = pc at *
    generalize m1.f k = it at *
    go_wp2_with fail
    refine HCp.out.mono ?_; rintro en w3 ⟨v3, rfl, hR3⟩
    obtain ⟨a3, c3, rfl, h4⟩ := item_new H3.out hR3
    have H4 : Hid (Hp o w3 (cellsT B0 [.int .i64 0, .string ⟨#[]⟩, .slice none 0 0] :: roT (itemR a3 c3 it) :: storeT T m1 :: l)) := Lib.hid ((h4 it.k it.t).pull 1 rfl)
    have b0 := H4.out.cell 0 rfl
    have b1 := H4.out.cell 1 rfl
    have b2 := H4.out.cell 2 rfl
    have z0 := H4.out.free 0 rfl
    have z1 := H4.out.free 1 rfl
    have z2 := H4.out.free 2 rfl
    have H5 := Lib.hid (((H4.out.cellSet 0 (.int .i64 it.k) rfl).cellSet 1 (.string it.t) rfl).cellSet 2 (.slice a3 it.l.length c3) rfl)
    clear h4 hR3 HCp H3 H4 c1 d1 d2 d3
    go_wp2_with fail
    generalize ((w3.setCell ⟨B0, 0, none⟩ (.int .i64 it.k)).setCell ⟨B0, 1, none⟩ (.string it.t)).setCell ⟨B0, 2, none⟩ (.slice a3 it.l.length c3) = W3 at *
    clear b0 b1 b2 z0 z1 z2
    have b0 := H5.out.cell 0 rfl
    have b1 := H5.out.cell 1 rfl
    have b2 := H5.out.cell 2 rfl
    refine bodyPost_ret (v := .tuple #[.agg #[.int .i64 it.k, .string it.t, .slice a3 it.l.length c3], .bool true]) ?_ rfl ⟨a3, c3, ?_, ?_⟩
    · rw [results_cell_tmp rfl]
      simp [asAddr, Result.andThen, go_sem, b0, b1, b2]
    · rw [HGV.out, HIN.out]; rfl
    · rw [HGV.out]
      exact H5.out.drop
set_option maxHeartbeats 4000000 in
set_option maxRecDepth 100000 in
theorem get_calls (h : Hp o w (storeT T m :: l)) (hw : Below w.heap.size w wb) (hok : Ok m) (hc : Ctx o) (k : ByteArray) (hk : k.size ≤ 1000) (now : Int) (hn : m.K.length ≤ 400) (he : m.ev.length ≤ 100000) :
    Calls Tryz.prog 24 #[ptr T, .string k, .int .i64 now] wb fun e w' => ∃ a c, e = .returned (.tuple #[itV a c (gotI k (endM k now m)), .bool (Ca.inK k (endM k now m).K)]) ∧ Hp o w' (roT (itemR a c (gotI k (endM k now m))) :: storeT T (getM k (endM k now m)) :: l) := by
  have h0 := (h.bel hw).cellsNew [.int .i64 0, .string ⟨#[]⟩, .slice none 0 0] 31
  have HH : Hid (Hp o (wb.alloc (.cells #[.int .i64 0, .string ⟨#[]⟩, .slice none 0 0] 31)) (cellsT wb.heap.size [.int .i64 0, .string ⟨#[]⟩, .slice none 0 0] :: storeT T m :: l)) := Lib.hid h0
  have HE := Lib.hid (peek_calls (HH.out.pull 1 rfl) (Below.refl _ _) hok hc k hk now hn (by omega))
  have HO := Lib.hid (hok.end_ k now)
  have h1 := end_len k now m
  clear h hw hok h0
  generalize endM k now m = m1 at *
  have HGM : Hid (getM k m1 = if Ca.inK k m1.K = true then { m1 with K := Ca.touchK k m1.K } else m1) := Lib.hid rfl
  unfold ptr at *
  go_enter Tryz.func24, Tryz.ntmps24
  go_wp2_with fail
  generalize wb.alloc (.cells #[.int .i64 0, .string ⟨#[]⟩, .slice none 0 0] 31) = W0 at *
  generalize wb.heap.size = B0 at *
  refine HE.out.mono ?_; rintro en w1 ⟨a, c, rfl, H1⟩
  obtain ⟨it, HIT⟩ : ∃ it, Hid (gotI k m1 = it) := ⟨_, Lib.hid rfl⟩
  rw [HIT.out] at H1
  rw [HIT.out]
  have h2 := H1.cellsNew [.int .i64 it.k, .string it.t, .slice a it.l.length c] 31
  have H2 : Hid (Hp o (w1.alloc (.cells #[.int .i64 it.k, .string it.t, .slice a it.l.length c] 31)) (cellsT w1.heap.size [.int .i64 it.k, .string it.t, .slice a it.l.length c] :: roT (itemR a c it) :: storeT T m1 :: cellsT B0 [.int .i64 0, .string ⟨#[]⟩, .slice none 0 0] :: l)) := Lib.hid h2
  have hBs : B0 < w1.heap.size := (H1.pull 2 rfl).cellsLt
  clear h2 H1 HE HH
  unfold itV
  cases hin : Ca.inK k m1.K with
  | false =>
    have HIN := Lib.hid hin
    have HG2 : Hid (getM k m1 = m1) := Lib.hid (by rw [HGM.out, hin, if_neg (by decide)])
    clear hin HGM
    go_upto_region 4 with fail
    generalize w1.alloc (.cells #[.int .i64 it.k, .string it.t, .slice a it.l.length c] 31) = W2 at *
    generalize w1.heap.size = B1 at *
    have b0 := (H2.out.pull 3 rfl).cell 0 rfl
    have b1 := (H2.out.pull 3 rfl).cell 1 rfl
    have b2 := (H2.out.pull 3 rfl).cell 2 rfl
    have z0 := (H2.out.pull 3 rfl).free 0 rfl
    have z1 := (H2.out.pull 3 rfl).free 1 rfl
    have z2 := (H2.out.pull 3 rfl).free 2 rfl
    have q0 := (H2.out.pull 0 rfl).cell 0 rfl
    have q1 := (H2.out.pull 0 rfl).cell 1 rfl
    have q2 := (H2.out.pull 0 rfl).cell 2 rfl
    have H4 := Lib.hid ((((H2.out.drop.pull 2 rfl).cellSet 0 (.int .i64 it.k) rfl).cellSet 1 (.string it.t) rfl).cellSet 2 (.slice a it.l.length c) rfl)
    go_wp2_with fail
    generalize ((W2.setCell ⟨B0, 0, none⟩ (.int .i64 it.k)).setCell ⟨B0, 1, none⟩ (.string it.t)).setCell ⟨B0, 2, none⟩ (.slice a it.l.length c) = W3 at *
    clear b0 b1 b2 z0 z1 z2
    have b0 := H4.out.cell 0 rfl
    have b1 := H4.out.cell 1 rfl
    have b2 := H4.out.cell 2 rfl
    refine bodyPost_ret (v := .tuple #[.agg #[.int .i64 it.k, .string it.t, .slice a it.l.length c], .bool false]) ?_ rfl ⟨a, c, ?_, ?_⟩
    · rw [results_cell_tmp rfl]
      simp [asAddr, Result.andThen, go_sem, b0, b1, b2]
    · rw [HIT.out, HIN.out]; rfl
    · rw [HIT.out, HG2.out]
      exact H4.out.drop
  | true =>
    have HIN := Lib.hid hin
    have HG2 : Hid (getM k m1 = { m1 with K := Ca.touchK k m1.K }) := Lib.hid (by rw [HGM.out, hin, if_pos rfl])
    have HKM : Hid (k ∈ m1.K) := Lib.hid (Ca.inK_iff.1 hin)
    clear hin HGM
    go_upto_region 3 with fail
    generalize w1.alloc (.cells #[.int .i64 it.k, .string it.t, .slice a it.l.length c] 31) = W2 at *
    generalize w1.heap.size = B1 at *
    obtain ⟨E, U, X, rv, P, f, ev, gn, hr, h⟩ := store_open2 (H2.out.pull 2 rfl)
    have HR := Lib.hid hr
    have c2 := h.cell 2 rfl
    have HT := Lib.hid (rec_touch (h.pull 4 rfl) (Below.refl _ _) k (by unfold maxLen; omega) (by omega))
    clear h hr
    go_wp2_with fail
    refine HT.out.mono ?_; rintro en w4 ⟨rfl, h4, -⟩
    have h5 := store_shut2 (m := { m1 with K := Ca.touchK k m1.K }) (K := Ca.touchK k m1.K) ⟨HR.out.tab, HR.out.pm.trans (touchK_permIn HO.out.kn HKM.out), HR.out.it, by
      show gn = ((sumB m1.f (Ca.touchK k m1.K) : Nat) : Int)
      rw [sumB_touch HO.out.kn HKM.out]; exact HR.out.n, HO.out.toPre.touch HKM.out⟩ rfl rfl rfl rfl (h4.push 4)
    have H3 : Hid (Hp o w4 (cellsT B1 [.int .i64 it.k, .string it.t, .slice a it.l.length c] :: roT (itemR a c it) :: storeT T { m1 with K := Ca.touchK k m1.K } :: cellsT B0 [.int .i64 0, .string ⟨#[]⟩, .slice none 0 0] :: l)) := Lib.hid (h5.push 2)
    clear h4 h5 HT c2 H2
    have b0 := (H3.out.pull 3 rfl).cell 0 rfl
    have b1 := (H3.out.pull 3 rfl).cell 1 rfl
    have b2 := (H3.out.pull 3 rfl).cell 2 rfl
    have z0 := (H3.out.pull 3 rfl).free 0 rfl
    have z1 := (H3.out.pull 3 rfl).free 1 rfl
    have z2 := (H3.out.pull 3 rfl).free 2 rfl
    have q0 := (H3.out.pull 0 rfl).cell 0 rfl
    have q1 := (H3.out.pull 0 rfl).cell 1 rfl
    have q2 := (H3.out.pull 0 rfl).cell 2 rfl
    have H4 := Lib.hid ((((H3.out.drop.pull 2 rfl).cellSet 0 (.int .i64 it.k) rfl).cellSet 1 (.string it.t) rfl).cellSet 2 (.slice a it.l.length c) rfl)
    go_wp2_with fail
    generalize ((w4.setCell ⟨B0, 0, none⟩ (.int .i64 it.k)).setCell ⟨B0, 1, none⟩ (.string it.t)).setCell ⟨B0, 2, none⟩ (.slice a it.l.length c) = W3 at *
    clear b0 b1 b2 z0 z1 z2
    have b0 := H4.out.cell 0 rfl
    have b1 := H4.out.cell 1 rfl
    have b2 := H4.out.cell 2 rfl
    refine bodyPost_ret (v := .tuple #[.agg #[.int .i64 it.k, .string it.t, .slice a it.l.length c], .bool true]) ?_ rfl ⟨a, c, ?_, ?_⟩
    · rw [results_cell_tmp rfl]
      simp [asAddr, Result.andThen, go_sem, b0, b1, b2]
    · rw [HIT.out, HIN.out]; rfl
    · rw [HIT.out, HG2.out]
      exact H4.out.drop
end
end Go.Proofs.YtmjlhmohglbecaaGreatDoor.Sa
/- Package store: Put; Len and Keys of a Store (its table's own). Conditions: a Store as it lies; the library's variables hold what start-up lays; bounds. -/
namespace Go.Proofs.YtmjlhmohglbecaaGreatDoor.Sa
set_option linter.unusedVariables false
set_option linter.unusedSimpArgs false
open Go.ChangeShapes Go.WideShapes Go.ChangeAt Go.RowKit
open Sp (Th Hp Stays All Ro roT rowT cellsT exT puT star)
/-- What Put makes of a store; b: is the item one that can be? -/
def putM (k : ByteArray) (i : Ia.It) (keep : Bool) (now : Int) (b : Bool) (m : Md) : Md :=
  if 512 < k.size ∨ b = false then endM k now m else if m.b < (costN k i : Int) then endM k now m else evM (setM k i keep (endM k now m))
def putN (k : ByteArray) (i : Ia.It) (b : Bool) (m : Md) : Int := if 512 < k.size ∨ b = false then 31 else if m.b < (costN k i : Int) then 121 else 0
theorem Ok.putM {m : Md} (h : Ok m) (k : ByteArray) (i : Ia.It) (keep : Bool) (now : Int) (b : Bool) (hb : b = true → Ia.RightP i) : Ok (putM k i keep now b m) := by
  unfold Sa.putM
  split
  · exact h.end_ k now
  · rename_i h1
    split
    · exact h.end_ k now
    · rename_i h2
      have hbt : b = true := by cases b with | false => exact absurd (.inr rfl) h1 | true => rfl
      exact (h.end_ k now).put k (by omega) i (hb hbt) keep (by rw [end_b]; omega)
section
variable {o w w' wb : World} {l : List Th} {T : Nat} {m : Md}
set_option maxHeartbeats 8000000 in
set_option maxRecDepth 100000 in
theorem put_calls {a : Option Addr} {c : Nat} {i : Ia.It} (h : Hp o w (roT (itemR a c i) :: storeT T m :: l)) (hw : Below w.heap.size w wb) (hok : Ok m) (hc : Ctx o) (k : ByteArray) (hk : k.size ≤ 1000) (hil : i.l.length ≤ 1000) (keep : Bool) (now : Int) (b : Bool) (hb : b = true ↔ Ia.RightP i) (hn : m.K.length ≤ 300) (he : m.ev.length ≤ 10000) :
    Calls Tryz.prog 22 #[ptr T, .string k, itV a c i, .bool keep, .int .i64 now] wb fun e w' => e = .returned (.int .i64 (putN k i b m)) ∧ Hp o w' (storeT T (putM k i keep now b m) :: l) := by
  have h0 := ((h.bel hw).cellsNew [.int .i64 i.k, .string i.t, .slice a i.l.length c] 31)
  have HH : Hid (Hp o (wb.alloc (.cells #[.int .i64 i.k, .string i.t, .slice a i.l.length c] 31)) (cellsT wb.heap.size [.int .i64 i.k, .string i.t, .slice a i.l.length c] :: roT (itemR a c i) :: storeT T m :: l)) := Lib.hid h0
  have HE := Lib.hid (end_calls (HH.out.pull 2 rfl) (Below.refl _ _) hc k hk now (by omega) (by omega))
  have HO := Lib.hid (hok.end_ k now)
  have h1 := end_len k now m
  have h2 := end_ev k now m
  have HBm : Hid ((endM k now m).b = m.b) := Lib.hid (end_b k now m)
  have HPM : Hid (putM k i keep now b m = if 512 < k.size ∨ b = false then endM k now m else if m.b < (costN k i : Int) then endM k now m else evM (setM k i keep (endM k now m))) := Lib.hid rfl
  have HPN : Hid (putN k i b m = if 512 < k.size ∨ b = false then 31 else if m.b < (costN k i : Int) then 121 else 0) := Lib.hid rfl
  have HB := Lib.hid hb
  clear h hw hok h0 hb
  generalize endM k now m = m1 at *
  generalize putM k i keep now b m = M at *
  unfold ptr itV at *
  go_enter Tryz.func22, Tryz.ntmps22
  go_wp2_with fail
  generalize wb.alloc (.cells #[.int .i64 i.k, .string i.t, .slice a i.l.length c] 31) = W0 at *
  generalize wb.heap.size = B0 at *
  refine HE.out.mono ?_; rintro en w1 ⟨rfl, H1⟩
  have H1 : Hid (Hp o w1 (cellsT B0 [.int .i64 i.k, .string i.t, .slice a i.l.length c] :: roT (itemR a c i) :: storeT T m1 :: l)) := Lib.hid (H1.push 2)
  clear HE HH
  have b0 := H1.out.cell 0 rfl
  have b1 := H1.out.cell 1 rfl
  have b2 := H1.out.cell 2 rfl
  by_cases hks : 512 < k.size
  · have hkc : (512 : Int) < (k.size : Int) := by omega
    have HM2 : Hid (M = m1) := Lib.hid (by rw [HPM.out, if_pos (.inl hks)])
    have HN2 : Hid (putN k i b m = 31) := Lib.hid (by rw [HPN.out, if_pos (.inl hks)])
    clear HPM HPN
    go_wp2_with fail
    go_ret
    exact ⟨by rw [HN2.out]; rfl, by rw [HM2.out]; exact H1.out.drop.drop⟩
  have hkc : ¬ (512 : Int) < (k.size : Int) := by omega
  have HRi := Lib.hid (Ia.right_calls w1 i.k i.t a c _ i.l rfl (item_inF (H1.out.pull 1 rfl)) b HB.out)
  cases b with
  | false =>
    have HM2 : Hid (M = m1) := Lib.hid (by rw [HPM.out, if_pos (.inr rfl)])
    have HN2 : Hid (putN k i false m = 31) := Lib.hid (by rw [HPN.out, if_pos (.inr rfl)])
    clear HPM HPN
    go_wp2_with fail
    refine HRi.out.mono ?_; rintro en w2 ⟨rfl, hb2⟩
    have H2 := Lib.hid (H1.out.bel hb2)
    clear hb2 HRi H1 b0 b1 b2
    go_wp2_with fail
    go_ret
    exact ⟨by rw [HN2.out]; rfl, by rw [HM2.out]; exact H2.out.drop.drop⟩
  | true =>
    have hri : Ia.RightP i := HB.out.1 rfl
    have HM2 : Hid (M = if m1.b < (costN k i : Int) then m1 else evM (setM k i keep m1)) := Lib.hid (by rw [HPM.out, if_neg (by rintro (h | h); omega; cases h), HBm.out])
    have HN2 : Hid (putN k i true m = if m1.b < (costN k i : Int) then 121 else 0) := Lib.hid (by rw [HPN.out, if_neg (by rintro (h | h); omega; cases h), HBm.out])
    clear HPM HPN HB
    go_wp2_with fail
    refine HRi.out.mono ?_; rintro en w2 ⟨rfl, hb2⟩
    have H2 := Lib.hid (H1.out.bel hb2)
    clear hb2 HRi H1 b0 b1 b2
    obtain ⟨E, U, X, rv, P, f, ev, gn, hr, h⟩ := store_open2 (H2.out.pull 2 rfl)
    obtain ⟨F, F1, F2, F3⟩ := Sp.ovr w2
    have c5 := Sp.ovr_cell F1 (h.cell 5 rfl)
    have b0 := Sp.ovr_cell F1 (H2.out.cell 0 rfl)
    have b1 := Sp.ovr_cell F1 (H2.out.cell 1 rfl)
    have b2 := Sp.ovr_cell F1 (H2.out.cell 2 rfl)
    have HF1 := Lib.hid F1
    have HF3 := Lib.hid F3
    have HCo := Lib.hid fun x => cost_calls (F x) (hc.below (H2.out.below.trans ((F1 x).mono H2.out.below.size))) k hk i hri a c (item_inF ((H2.out.bel (F1 x)).pull 1 rfl))
    have HRI := Lib.hid hri
    clear h hr F1 F3 hri
    go_wp2_with fail
    refine Sp.wp_region_cls F (by kernel_rfl) (by kernel_rfl) F2 ?_
    repeat (go_big_quiet_step ((go_at_call 48; with_reducible exact Sp.q_ovr HF3.out (HCo.out _))))
    refine wpQuiet_nil ?_
    intro _ hw'
    obtain ⟨x1, hw2⟩ := hw'
    subst hw2
    have H3 := Lib.hid (H2.out.bel (HF1.out x1))
    clear c5 b0 b1 b2 F2 HF1 HF3 HCo H2
    generalize F x1 = W3 at *
    by_cases hco : m1.b < (costN k i : Int)
    · have HM3 : Hid (M = m1) := Lib.hid (by rw [HM2.out, if_pos hco])
      have HN3 : Hid (putN k i true m = 121) := Lib.hid (by rw [HN2.out, if_pos hco])
      clear HM2 HN2
      go_wp2_with fail
      go_ret
      exact ⟨by rw [HN3.out]; rfl, by rw [HM3.out]; exact H3.out.drop.drop⟩
    · have HM3 : Hid (M = evM (setM k i keep m1)) := Lib.hid (by rw [HM2.out, if_neg hco])
      have HN3 : Hid (putN k i true m = 0) := Lib.hid (by rw [HN2.out, if_neg hco])
      clear HM2 HN2
      have b0 := H3.out.cell 0 rfl
      have b1 := H3.out.cell 1 rfl
      have b2 := H3.out.cell 2 rfl
      have HCp := Lib.hid (Ia.copy_calls W3 i.k i.t a c _ i.l rfl (item_inF (H3.out.pull 1 rfl)) (by omega))
      have HCO := Lib.hid hco
      clear hco
      go_wp2_with fail
      refine HCp.out.mono ?_; rintro en w4 ⟨v4, rfl, hR4⟩
      obtain ⟨a4, c4, rfl, h4⟩ := item_new (H3.out.drop.drop) hR4
      have HSt := Lib.hid (set_calls (h4 i.k i.t) (Below.refl _ _) hc k (by omega) HRI.out (by omega))
      unfold ptr at HSt
      clear h4 hR4 HCp H3 b0 b1 b2
      go_wp2_with fail
      refine HSt.out.mono ?_; rintro en w5 ⟨rfl, E, U, X, ev, rv, P, f, gn, h5⟩
      have H5 := Lib.hid h5
      have c2 := h5.h.cell 2 rfl
      have HT := Lib.hid (rec_touch (h5.h.pull 4 rfl) (Below.refl _ _) k (by unfold maxLen; omega) (by omega))
      clear h5 HSt
      go_wp2_with fail
      refine HT.out.mono ?_; rintro en w6 ⟨rfl, h6, -⟩
      have H6 : Hid (Hp o w6 (cellsT T [.pointer (some ⟨E, 0, none⟩), rv, .pointer (some ⟨U, 0, none⟩), .pointer (some ⟨X, 0, none⟩), .int .i64 gn, .int .i64 m1.b, ev] :: tabT E f P.length :: rowsT rv P :: roT (rowsR P) :: recT U (Ca.touchK k m1.K) :: expT X m1.S :: evsT ev m1.ev :: l)) := Lib.hid (h6.push 4)
      clear h6 HT c2
      have HSP := Lib.hid (HO.out.toPre.set k (by omega) i HRI.out keep)
      have HSl := Lib.hid HO.out.toPre.sl
      have HRp : Hid (∀ ev', Rep ⟨E, U, X, rv, P, f, ev', gn⟩ (setM k i keep m1)) := Lib.hid fun ev' => ⟨H5.out.tab, H5.out.pm, H5.out.it, H5.out.n, HSP.out⟩
      have HEv : Hid (∀ W, Hp o W (storeT T (setM k i keep m1) :: l) → Calls Tryz.prog 53 #[.pointer (some ⟨T, 0, none⟩), .string k] W fun e w' => e = .returned (.tuple #[]) ∧ Hp o w' (storeT T (evM (setM k i keep m1)) :: l)) := Lib.hid fun W hW => evict_calls hW (Below.refl _ _) hc k HSP.out ⟨Ca.dropK k m1.K, rfl⟩ (by
        show ((costN k (updF m1.f k i k) : Nat) : Int) ≤ m1.b
        rw [updF_same]
        have := HCO.out
        omega) (by have := touch_le k m1.K; show (Ca.touchK k m1.K).length ≤ _; omega) (by show (m1.ev ++ [(1, k)]).length ≤ _; simp; omega)
      cases keep with
      | true =>
        have HTl := Lib.hid (tell_calls ((H6.out.pull 6 rfl).push 1) (Below.refl _ _) 1 k (by omega))
        unfold ptr at HTl
        go_wp2_with fail
        refine HTl.out.mono ?_; rintro en w7 ⟨rfl, ev', h7⟩
        have h8 := store_shut2 (m := setM k i true m1) (HRp.out ev') rfl rfl rfl rfl ((h7.pull 1 rfl).push 6)
        have HEv2 := Lib.hid (HEv.out w7 h8)
        clear h7 h8 HTl
        go_wp2_with fail
        refine HEv2.out.mono ?_; rintro en w8 ⟨rfl, h9⟩
        have H9 := Lib.hid h9
        go_wp2_with fail
        go_ret
        exact ⟨by rw [HN3.out]; rfl, by rw [HM3.out]; exact H9.out⟩
      | false =>
        have c3 := H6.out.cell 3 rfl
        have HXd := Lib.hid (exp_drop (H6.out.pull 5 rfl) (Below.refl _ _) k (by unfold maxLen; omega) (by have := HSl.out; omega))
        go_wp2_with fail
        refine HXd.out.mono ?_; rintro en w6b ⟨rfl, h6b, -⟩
        have h6c := h6b.push 5
        have HTl := Lib.hid (tell_calls ((h6c.pull 6 rfl).push 1) (Below.refl _ _) 1 k (by omega))
        unfold ptr at HTl
        clear h6b h6c HXd c3
        go_wp2_with fail
        refine HTl.out.mono ?_; rintro en w7 ⟨rfl, ev', h7⟩
        have h8 := store_shut2 (m := setM k i false m1) (HRp.out ev') rfl rfl rfl rfl ((h7.pull 1 rfl).push 6)
        have HEv2 := Lib.hid (HEv.out w7 h8)
        clear h7 h8 HTl
        go_wp2_with fail
        refine HEv2.out.mono ?_; rintro en w8 ⟨rfl, h9⟩
        have H9 := Lib.hid h9
        go_wp2_with fail
        go_ret
        exact ⟨by rw [HN3.out]; rfl, by rw [HM3.out]; exact H9.out⟩
end
end Go.Proofs.YtmjlhmohglbecaaGreatDoor.Sa
