/- Package store: a Store as a thing (storeT); tell. Conditions: bounds. -/
import Derived.Test.YtmjlhmohglbecaaGreatDoorSb2
import Derived.Test.YtmjlhmohglbecaaGreatDoorWs
import Derived.Test.YtmjlhmohglbecaaGreatDoorWq
import Derived.Test.YtmjlhmohglbecaaGreatDoorSpB
namespace Go.Proofs.YtmjlhmohglbecaaGreatDoor.Sa
set_option linter.unusedVariables false
set_option linter.unusedSimpArgs false
open Go.ChangeShapes Go.WideShapes Go.ChangeAt Go.RowKit
open Sp (Th Hp Stays All Ro roT rowT cellsT exT puT star)
/-- What stands behind a Store: its table, its recents, its dues, its rows, which place each key has, its events, how many bytes. -/
structure Gh where
  E : Nat
  U : Nat
  X : Nat
  rv : Value
  P : List Rw
  f : ByteArray → Option Int
  ev : Value
  n : Int
def ptr (b : Nat) : Value := .pointer (some ⟨b, 0, none⟩)
def cells7 (g : Gh) (b : Int) : List Value := [ptr g.E, g.rv, ptr g.U, ptr g.X, .int .i64 g.n, .int .i64 b, g.ev]
def rowsT (v : Value) (P : List Rw) : Th := rowT 100 4 v P.length (cellsW P)
def evsT (v : Value) (l : List (Int × ByteArray)) : Th := rowT 62 2 v l.length (cellsE l)
/-- The parts, one by one. -/
def parts (T : Nat) (g : Gh) (K : List ByteArray) (S : List Ea.Du) (b : Int) (ev : List (Int × ByteArray)) : List Th :=
  [cellsT T (cells7 g b), tabT g.E g.f g.P.length, rowsT g.rv g.P, roT (rowsR g.P), recT g.U K, expT g.X S, evsT g.ev ev]
structure Rep (g : Gh) (m : Md) : Prop where
  tab : TabOf g.f g.P
  pm : List.Perm (g.P.map (·.k)) m.K
  it : ∀ p ∈ g.P, m.f p.k = p.i
  n : g.n = sumB m.f m.K
  pre : Pre m
/-- A Store. -/
def storeT (T : Nat) (m : Md) : Th := exT fun g => puT (Rep g m) (star (parts T g m.K m.S m.b m.ev))
section
variable {o w w' wb : World} {l : List Th} {T : Nat} {m : Md}
theorem store_open (h : Hp o w (storeT T m :: l)) : ∃ g, Rep g m ∧ Hp o w (parts T g m.K m.S m.b m.ev ++ l) := by
  obtain ⟨g, h⟩ := h.ex
  obtain ⟨hr, h⟩ := h.pu
  exact ⟨g, hr, h.open⟩
theorem store_shut {g : Gh} (hr : Rep g m) (h : Hp o w (parts T g m.K m.S m.b m.ev ++ l)) : Hp o w (storeT T m :: l) := Hp.mkEx g (Hp.mkPu hr h.shut)
theorem iEv : (Tryz.prog.info? 62).map (fun i => (i.zero, i.size, i.bytes)) = some (some (.agg #[.int .i64 0, .string ⟨#[]⟩]), 2, 24) := by kernel_rfl
theorem iRw : (Tryz.prog.info? 100).map (fun i => (i.zero, i.size, i.bytes)) = some (some (.agg #[.string ⟨#[]⟩, .int .i64 0, .string ⟨#[]⟩, .slice none 0 0]), 4, 64) := by kernel_rfl
theorem cells2_new (w : World) (a b : Value) (t : TypeId) : ∀ j u, [a, b][j]? = some u → (w.alloc (.cells #[a, b] t)).cell? ((⟨w.heap.size, 0, none⟩ : Addr).add j) = some u := fun j u hj => by
  rw [Addr.add_lit, Nat.zero_add, World.cell?_alloc_new]
  simpa using hj
set_option maxHeartbeats 4000000 in
set_option maxRecDepth 100000 in
theorem tell_calls {v0 v1 v2 v3 v4 v5 v6 : Value} {ev : List (Int × ByteArray)} (h : Hp o w (cellsT T [v0, v1, v2, v3, v4, v5, v6] :: evsT v6 ev :: l)) (hw : Below w.heap.size w wb) (kind : Int) (key : ByteArray) (hn : ev.length ≤ 1000000) :
    Calls Tryz.prog 52 #[ptr T, .int .i64 kind, .string key] wb fun e w' => e = .returned (.tuple #[]) ∧ ∃ v', Hp o w' (cellsT T [v0, v1, v2, v3, v4, v5, v'] :: evsT v' (ev ++ [(kind, key)]) :: l) := by
  have c6 := (h.bel hw).cell 6 rfl
  have HH := Lib.hid h
  have HW := Lib.hid hw
  have HN := Lib.hid hn
  clear h hw hn
  obtain ⟨i0, hi, hz0, hz1, hz2⟩ := info_parts iEv
  unfold ptr
  go_enter Tryz.func52, Tryz.ntmps52
  go_wp2_with (at_builtin; refine Hp.rowPush (HH.out.pull 1 rfl) (Sp.bstep HW.out (Sp.bbox _)) rfl _ _ 41 rfl i0 _ 24 Tryz.underlying41 hi hz0 hz1 hz2 rfl (by decide) rfl ⟨wb.heap.size, 0, none⟩ 1 1 [.int .i64 kind, .string key] rfl rfl ?c1 ?c2 ?c3 ?c4 ?_)
  case c1 => exact cells2_new wb _ _ _
  case c2 => intro u hu; simp only [List.mem_cons, List.not_mem_nil, or_false] at hu; rcases hu with rfl | rfl <;> rfl
  case c3 => have := HN.out; unfold maxLen; omega
  case c4 => have := HN.out; omega
  intro v' w2 h2 hst
  obtain ⟨a2, c2, rfl, -, -, -⟩ := h2.rowForm
  have h3 := h2.push 1
  have H3 : Hid (Hp o w2 (cellsT T [v0, v1, v2, v3, v4, v5, v6] :: rowT 62 2 (.slice a2 (ev.length + 1) c2) (ev.length + 1) (cellsE ev ++ [.int .i64 kind, .string key]) :: l)) := Lib.hid h3
  have d6 := H3.out.cell 6 rfl
  have f6 := H3.out.free 6 rfl
  clear h2 h3 hst c6
  go_wp2_with fail
  go_end0
  have H4 := H3.out.cellSet 6 (.slice a2 (ev.length + 1) c2) rfl
  refine ⟨rfl, .slice a2 (ev.length + 1) c2, ?_⟩
  unfold evsT
  rw [List.length_append, cellsE_app]
  exact H4
end
end Go.Proofs.YtmjlhmohglbecaaGreatDoor.Sa
/- Package store: fill. Conditions: the parts of a Store as they lie; bounds. -/
namespace Go.Proofs.YtmjlhmohglbecaaGreatDoor.Sa
set_option linter.unusedVariables false
set_option linter.unusedSimpArgs false
open Go.ChangeShapes Go.WideShapes Go.ChangeAt Go.RowKit
open Sp (Th Hp Stays All Ro roT rowT cellsT exT puT star)
section
variable {o w w' wb : World} {l : List Th} {T : Nat} {m : Md}
theorem row_cells {P : List Rw} {g c : Nat} (h : Hp o w (rowsT (.slice (some ⟨g, 0, none⟩) P.length c) P :: l)) {j : Nat} (hj : j < P.length) :
    w.cell? ⟨g, j * 4, none⟩ = some (.string P[j].k) ∧ w.cell? ⟨g, j * 4 + 1, none⟩ = some (.int .i64 P[j].i.k) ∧ w.cell? ⟨g, j * 4 + 2, none⟩ = some (.string P[j].i.t) ∧ w.cell? ⟨g, j * 4 + 3, none⟩ = some (.slice P[j].a P[j].i.l.length P[j].c) := by
  have h0 := cellsW_at P j hj 0 (by decide)
  have h1 := cellsW_at P j hj 1 (by decide)
  have h2 := cellsW_at P j hj 2 (by decide)
  have h3 := cellsW_at P j hj 3 (by decide)
  have k := fun r (hr : r < 4) => h.rowCell (j := j * 4 + r) (by omega)
  refine ⟨?_, ?_, ?_, ?_⟩
  · have := k 0 (by decide); rw [h0] at this; exact this
  · have := k 1 (by decide); rw [h1] at this; exact this
  · have := k 2 (by decide); rw [h2] at this; exact this
  · have := k 3 (by decide); rw [h3] at this; exact this
/-- A row's four cells, written. -/
theorem row_set4 {P : List Rw} {g c : Nat} (h : Hp o w (rowsT (.slice (some ⟨g, 0, none⟩) P.length c) P :: l)) {j : Nat} (hj : j < P.length) (q : Rw) :
    Hp o ((((w.setCell ⟨g, j * 4, none⟩ (.string q.k)).setCell ⟨g, j * 4 + 1, none⟩ (.int .i64 q.i.k)).setCell ⟨g, j * 4 + 2, none⟩ (.string q.i.t)).setCell ⟨g, j * 4 + 3, none⟩ (.slice q.a q.i.l.length q.c)) (rowsT (.slice (some ⟨g, 0, none⟩) (P.set j q).length c) (P.set j q) :: l) := by
  have h1 := (((Hp.rowSet h (j * 4) (.string q.k)).rowSet (j * 4 + 1) (.int .i64 q.i.k)).rowSet (j * 4 + 2) (.string q.i.t)).rowSet (j * 4 + 3) (.slice q.a q.i.l.length q.c)
  rw [← cellsW_set P j hj q] at h1
  unfold rowsT
  rw [List.length_set]
  exact h1
theorem ro_map {r r' : Ro} (h : Hp o w (roT r :: l)) (k : ∀ {R}, r.P R w → r'.P R w) : Hp o w (roT r' :: l) := by
  obtain ⟨O, R, ⟨A, B, ⟨h0, h1⟩, h2⟩, h3⟩ := h
  exact ⟨O, R, ⟨A, B, ⟨h0, k h1⟩, h2⟩, h3⟩
theorem fillP_mem {P : List Rw} {j n : Nat} (hj : j < P.length) (hl : P.length = n + 1) {p : Rw} (hp : p ∈ fillP P j) : p ∈ P := (fillP_perm hj hl).mem_iff.2 (List.mem_cons_of_mem _ hp)
def zeroW : Rw := ⟨⟨#[]⟩, ⟨0, ⟨#[]⟩, []⟩, none, 0⟩
set_option maxHeartbeats 4000000 in
set_option maxRecDepth 100000 in
theorem fill_calls {E : Nat} {v1 v2 v3 v4 v5 v6 : Value} {f : ByteArray → Option Int} {P : List Rw} {j n : Nat} (h : Hp o w (cellsT T [ptr E, v1, v2, v3, v4, v5, v6] :: tabT E f P.length :: rowsT v1 P :: roT (rowsR P) :: l)) (hw : Below w.heap.size w wb)
    (hj : j < P.length) (hl : P.length = n + 1) (hn : n ≤ 500) (hf : TabOf f P) (hk : ∀ p ∈ P, p.k.size ≤ 1000) :
    Calls Tryz.prog 82 #[ptr T, .int .i64 j] wb fun e w' => e = .returned (.tuple #[]) ∧ ∃ v', Hp o w' (cellsT T [ptr E, v', v2, v3, v4, v5, v6] :: tabT E (putF f (P[n]'(by omega)).k (some (j : Int))) (n + 1) :: rowsT v' (fillP P j) :: roT (rowsR (fillP P j)) :: l) := by
  have h0 := h.bel hw
  have c0 := h0.cell 0 rfl
  have c1 := h0.cell 1 rfl
  obtain ⟨a, cc, rfl, -, hcc, ha⟩ := (h0.pull 2 rfl).rowForm
  obtain ⟨g, rfl⟩ := ha (by omega)
  have HH := Lib.hid h0
  have HL := Lib.hid hl
  have HF := Lib.hid hf
  have HK := Lib.hid hk
  have HJ := Lib.hid hj
  have hn1 : n < P.length := by omega
  have hjc : (j : Int) < (n : Int) + 1 := by omega
  have HD := Lib.hid (row_cells (h0.pull 2 rfl) hj)
  have HE := Lib.hid (row_cells (h0.pull 2 rfl) hn1)
  have HZ : Hid (∀ i, wb.frozen? ⟨g, i, none⟩ = false) := Lib.hid fun i => (h0.pull 2 rfl).rowFrozen i
  have HR := Lib.hid (row_set4 (h0.pull 2 rfl) hj P[n])
  rw [hl] at c1
  clear h h0 ha hf hk
  generalize hp : P[j] = p at *
  generalize hq : P[n] = q at *
  have HP := Lib.hid hp
  have HQ := Lib.hid hq
  clear hp hq hl
  unfold ptr at *
  go_enter Tryz.func82, Tryz.ntmps82
  go_wp2_with fail
  obtain ⟨F, hF⟩ : ∃ F : Nat → World, ∀ x, F x = wb.drewN x := ⟨fun x => wb.drewN x, fun _ => rfl⟩
  have f1 : ∀ x, (F x).cell? ⟨T, 1, none⟩ = some (.slice (some ⟨g, 0, none⟩) (n + 1) cc) := fun x => by rw [hF]; exact c1
  have f2 : ∀ x, (F x).cell? ⟨g, n * 4, none⟩ = some (.string q.k) := fun x => by rw [hF]; exact HE.out.1
  have f3 : ∀ x, (F x).cell? ⟨g, n * 4 + 1, none⟩ = some (.int .i64 q.i.k) := fun x => by rw [hF]; exact HE.out.2.1
  have f4 : ∀ x, (F x).cell? ⟨g, n * 4 + 2, none⟩ = some (.string q.i.t) := fun x => by rw [hF]; exact HE.out.2.2.1
  have f5 : ∀ x, (F x).cell? ⟨g, n * 4 + 3, none⟩ = some (.slice q.a q.i.l.length q.c) := fun x => by rw [hF]; exact HE.out.2.2.2
  have f6 : ∃ x, wb.drew = F x := ⟨1, by rw [hF]; rfl⟩
  have HFx := Lib.hid hF
  clear hF c1 c0
  refine Go.Proofs.YtmjlhmohglbecaaGreatDoor.wp_region_tail F 12 (by kernel_rfl) (by kernel_rfl) f6 ?_
  simp only [List.take_succ_cons, List.take_zero, List.drop_succ_cons, List.drop_zero]
  repeat (go_big_quiet_step (fail))
  refine wpQuiet_nil ?_
  intro x1
  have H1 := Lib.hid (HH.out.bel (w' := F x1) (by rw [HFx.out]; exact Ta.drewN_below wb x1))
  clear f1 f2 f3 f4 f5 f6 HFx HD HE HZ HR
  generalize F x1 = W1 at *
  have hjl := HJ.out
  obtain ⟨d0, d1, d2, d3⟩ := row_cells (H1.out.pull 2 rfl) hjl
  have z0 := (H1.out.pull 2 rfl).rowFrozen (j * 4)
  have z1 := (H1.out.pull 2 rfl).rowFrozen (j * 4 + 1)
  have z2 := (H1.out.pull 2 rfl).rowFrozen (j * 4 + 2)
  have z3 := (H1.out.pull 2 rfl).rowFrozen (j * 4 + 3)
  have H2 : Hid (Hp o ((((W1.setCell ⟨g, j * 4, none⟩ (.string q.k)).setCell ⟨g, j * 4 + 1, none⟩ (.int .i64 q.i.k)).setCell ⟨g, j * 4 + 2, none⟩ (.string q.i.t)).setCell ⟨g, j * 4 + 3, none⟩ (.slice q.a q.i.l.length q.c)) (cellsT T [.pointer (some ⟨E, 0, none⟩), .slice (some ⟨g, 0, none⟩) P.length cc, v2, v3, v4, v5, v6] :: tabT E f P.length :: rowsT (.slice (some ⟨g, 0, none⟩) (P.set j q).length cc) (P.set j q) :: roT (rowsR P) :: l)) := Lib.hid ((row_set4 (H1.out.pull 2 rfl) hjl q).push 2)
  clear H1 HH
  go_wp2_with fail
  generalize ((((W1.setCell ⟨g, j * 4, none⟩ (.string q.k)).setCell ⟨g, j * 4 + 1, none⟩ (.int .i64 q.i.k)).setCell ⟨g, j * 4 + 2, none⟩ (.string q.i.t)).setCell ⟨g, j * 4 + 3, none⟩ (.slice q.a q.i.l.length q.c)) = W2 at *
  clear d0 d1 d2 d3 z0 z1 z2 z3
  obtain ⟨F, hF⟩ : ∃ F : Nat → World, ∀ x, F x = W2.drewN x := ⟨fun x => W2.drewN x, fun _ => rfl⟩
  have f1 : ∀ x, (F x).cell? ⟨T, 1, none⟩ = some (.slice (some ⟨g, 0, none⟩) (n + 1) cc) := fun x => by rw [hF, ← HL.out]; exact H2.out.cell 1 rfl
  have f2 : ∀ x, (F x).cell? ⟨T, 0, none⟩ = some (.pointer (some ⟨E, 0, none⟩)) := fun x => by rw [hF]; exact H2.out.cell 0 rfl
  have f3 : ∀ x, (F x).cell? ⟨g, j * 4, none⟩ = some (.string q.k) := fun x => by
    rw [hF]
    have := (row_cells (P := P.set j q) (H2.out.pull 2 rfl) (j := j) (by rw [List.length_set]; exact hjl)).1
    rw [List.getElem_set_self] at this
    exact this
  have f6 : ∃ x, W2.drew = F x := ⟨1, by rw [hF]; rfl⟩
  have HFx := Lib.hid hF
  have hqk : q.k.size ≤ 1000 := HK.out q (by rw [← HQ.out]; exact List.getElem_mem _)
  have HQK := Lib.hid hqk
  have HFQ : Hid (f q.k = some (n : Int)) := Lib.hid (by rw [← HQ.out]; exact HF.out.some _)
  clear hF hqk
  refine Go.Proofs.YtmjlhmohglbecaaGreatDoor.wp_region_tail F 13 (by kernel_rfl) (by kernel_rfl) f6 ?_
  simp only [List.take_succ_cons, List.take_zero, List.drop_succ_cons, List.drop_zero]
  repeat (go_big_quiet_step (fail))
  refine wpQuiet_nil ?_
  intro x2
  have H3 := Lib.hid ((H2.out.bel (w' := F x2) (by rw [HFx.out]; exact Ta.drewN_below W2 x2)).pull 1 rfl)
  clear f1 f2 f3 f6 HFx H2
  generalize F x2 = W3 at *
  have HPt := Lib.hid (tab_put (wb := W3) H3.out (Below.refl _ _) q.k HQK.out (by rw [HL.out]; omega) (j : Int))
  go_wp2_with fail
  refine HPt.out.mono ?_; rintro en w4 ⟨rfl, h4, -⟩
  have h4 := h4.push 1
  rw [HFQ.out] at h4
  have H4 : Hid (Hp o w4 (cellsT T [.pointer (some ⟨E, 0, none⟩), .slice (some ⟨g, 0, none⟩) P.length cc, v2, v3, v4, v5, v6] :: tabT E (putF f q.k (some (j : Int))) (n + 1) :: rowsT (.slice (some ⟨g, 0, none⟩) (P.set j q).length cc) (P.set j q) :: roT (rowsR P) :: l)) := Lib.hid (by
    have h5 := h4
    rw [show P.length + (if (some (n : Int)).isSome = true then 0 else 1) = n + 1 by rw [HL.out]; rfl] at h5
    exact h5)
  clear h4 H3 HPt
  have hnl : n < (P.set j q).length := by rw [List.length_set, HL.out]; omega
  have c1 : w4.cell? ⟨T, 1, none⟩ = some (.slice (some ⟨g, 0, none⟩) (n + 1) cc) := by rw [← HL.out]; exact H4.out.cell 1 rfl
  obtain ⟨d0, d1, d2, d3⟩ := row_cells (H4.out.pull 2 rfl) hnl
  have z0 := (H4.out.pull 2 rfl).rowFrozen (n * 4)
  have z1 := (H4.out.pull 2 rfl).rowFrozen (n * 4 + 1)
  have z2 := (H4.out.pull 2 rfl).rowFrozen (n * 4 + 2)
  have z3 := (H4.out.pull 2 rfl).rowFrozen (n * 4 + 3)
  have H5 : Hid (Hp o ((((w4.setCell ⟨g, n * 4, none⟩ (.string ⟨#[]⟩)).setCell ⟨g, n * 4 + 1, none⟩ (.int .i64 0)).setCell ⟨g, n * 4 + 2, none⟩ (.string ⟨#[]⟩)).setCell ⟨g, n * 4 + 3, none⟩ (.slice none 0 0)) (cellsT T [.pointer (some ⟨E, 0, none⟩), .slice (some ⟨g, 0, none⟩) P.length cc, v2, v3, v4, v5, v6] :: tabT E (putF f q.k (some (j : Int))) (n + 1) :: rowsT (.slice (some ⟨g, 0, none⟩) ((P.set j q).set n zeroW).length cc) ((P.set j q).set n zeroW) :: roT (rowsR P) :: l)) := Lib.hid ((row_set4 (H4.out.pull 2 rfl) hnl zeroW).push 2)
  have hnn : (n : Int) < (n : Int) + 1 := by omega
  go_upto_region 4 with fail
  generalize ((((w4.setCell ⟨g, n * 4, none⟩ (.string ⟨#[]⟩)).setCell ⟨g, n * 4 + 1, none⟩ (.int .i64 0)).setCell ⟨g, n * 4 + 2, none⟩ (.string ⟨#[]⟩)).setCell ⟨g, n * 4 + 3, none⟩ (.slice none 0 0)) = W5 at *
  clear d0 d1 d2 d3 z0 z1 z2 z3 c1 H4
  have c1 : W5.cell? ⟨T, 1, none⟩ = some (.slice (some ⟨g, 0, none⟩) (n + 1) cc) := by rw [← HL.out]; exact H5.out.cell 1 rfl
  have z1 := H5.out.free 1 rfl
  have hcap : n ≤ cc := by
    obtain ⟨a', c', e, h1, -, -⟩ := (H5.out.pull 2 rfl).rowForm
    injection e with e1 e2 e3
    rw [List.length_set, List.length_set, HL.out] at h1
    omega
  go_wp2_with fail
  go_end0
  refine ⟨rfl, .slice (some ⟨g, 0, none⟩) n cc, ?_⟩
  have h6 := ((H5.out.pull 2 rfl).rowCut n (by rw [List.length_set, List.length_set, HL.out]; omega)).push 2
  have h7 := h6.cellSet 1 (.slice (some ⟨g, 0, none⟩) n cc) rfl
  have h9 := ro_map (r' := rowsR (fillP P j)) (h7.pull 3 rfl) (fun hr p hp => hr p (fillP_mem HJ.out HL.out hp))
  have h10 := h9.push 3
  have e : (cellsW ((P.set j q).set n zeroW)).take (n * 4) = cellsW (fillP P j) := by
    rw [cellsW_take, fillP_eq HL.out, List.take_set_of_le (Nat.le_refl _), HQ.out]
  have e2 : n = (fillP P j).length := (fillP_len HL.out).symm
  rw [e] at h10
  unfold rowsT
  rw [fillP_len HL.out]
  exact h10
end
end Go.Proofs.YtmjlhmohglbecaaGreatDoor.Sa
/- Package store: lose. Conditions: a Store as it lies; the library's variables hold what start-up lays; bounds. -/
namespace Go.Proofs.YtmjlhmohglbecaaGreatDoor.Sa
set_option linter.unusedVariables false
set_option linter.unusedSimpArgs false
open Go.ChangeShapes Go.WideShapes Go.ChangeAt Go.RowKit
open Sp (Th Hp Stays All Ro roT rowT cellsT exT puT star)
theorem costN_nat {k : ByteArray} {i : Ia.It} (hr : Ia.RightP i) : (i.k = 1 ∧ costN k i = 48 + k.size + Ia.textC i.t) ∨ (i.k = 2 ∧ costN k i = 48 + k.size + Ia.sumC i.l) := by
  unfold costN
  rcases hr with ⟨h1, h2, -⟩ | ⟨h1, -, h2⟩
  · rw [if_pos h1]; exact .inl ⟨h1, rfl⟩
  · rw [if_neg (by omega), if_pos h1]; exact .inr ⟨h1, rfl⟩
/-- Cost of an item that can be. -/
theorem cost_calls (W : World) (hc : Ctx W) (k : ByteArray) (hk : k.size ≤ 1000) (i : Ia.It) (hr : Ia.RightP i) (a : Option Addr) (c : Nat) (hI : Ia.InF W a i.l) :
    Calls Tryz.prog 48 #[.string k, .agg #[.int .i64 i.k, .string i.t, .slice a i.l.length c]] W fun e w' => e = .returned (.int .i64 (costN k i : Nat)) ∧ Below W.heap.size W w' := by
  obtain ⟨kd, t, l⟩ := i
  rcases costN_nat (k := k) hr with ⟨h1, h2⟩ | ⟨h1, h2⟩
  · have h1 : kd = 1 := h1
    subst h1
    rw [h2]
    rcases hr with ⟨-, ht, -⟩ | ⟨h, -⟩
    · exact Ia.cost_text W hc k t _ (by omega) (by have : t.size ≤ 4096 := ht; omega)
    · have h : (1 : Int) = 2 := h
      omega
  · have h1 : kd = 2 := h1
    subst h1
    rw [h2]
    rcases hr with ⟨h, -⟩ | ⟨-, -, hA⟩
    · have h : (2 : Int) = 1 := h
      omega
    · have hl : l.length ≤ 256 := hA.2.1
      have h3 := Ia.sumC_bound l fun j hj => ⟨by have h : l[j].1.size ≤ 512 := (hA.2.2 j hj).1; omega, by have h : l[j].2.size ≤ 4096 := (hA.2.2 j hj).2.1; omega⟩
      exact Ia.cost_hash W k t a c _ l rfl (by omega) (by show Ia.sumC l ≤ _; omega) (by omega) hI
theorem costN_le2 {k : ByteArray} {i : Ia.It} (hk : k.size ≤ 1000) (hr : Ia.RightP i) : costN k i ≤ 2000000 := by
  rcases costN_nat (k := k) hr with ⟨h1, h2⟩ | ⟨h1, h2⟩
  · rw [h2]
    rcases hr with ⟨-, ht, -⟩ | ⟨h, -⟩
    · unfold Ia.textC; split <;> omega
    · omega
  · rw [h2]
    rcases hr with ⟨h, -⟩ | ⟨-, -, hA⟩
    · omega
    · have hl : i.l.length ≤ 256 := hA.2.1
      have h3 := Ia.sumC_bound i.l fun j hj => ⟨by have := (hA.2.2 j hj).1; omega, by have := (hA.2.2 j hj).2.1; omega⟩
      omega
section
variable {o w w' wb : World} {l : List Th} {T : Nat} {m : Md}
theorem Rep.mem {g : Gh} (h : Rep g m) (k : ByteArray) : (g.f k).isSome = Ca.inK k m.K := by
  rw [Bool.eq_iff_iff, h.tab.mem, Ca.inK_iff]
  exact h.pm.mem_iff
theorem Rep.rowOf {g : Gh} (h : Rep g m) {k : ByteArray} (hk : Ca.inK k m.K = true) : ∃ j, ∃ hj : j < g.P.length, g.P[j].k = k ∧ g.f k = some (j : Int) ∧ g.P[j].i = m.f k := by
  rw [← h.mem] at hk
  obtain ⟨n, hn⟩ := Option.isSome_iff_exists.1 hk
  obtain ⟨j, hj, e1, e2⟩ := (h.tab k n).1 hn
  exact ⟨j, hj, e1, by rw [hn, e2], by rw [← h.it _ (List.getElem_mem hj), e1]⟩
theorem Rep.len {g : Gh} (h : Rep g m) : g.P.length = m.K.length := by have := h.pm.length_eq; rwa [List.length_map] at this
theorem Rep.key {g : Gh} (h : Rep g m) {p : Rw} (hp : p ∈ g.P) : p.k ∈ m.K := h.pm.mem_iff.1 (List.mem_map_of_mem hp)
/-- What a Store stands for without one of its keys. -/
theorem Rep.lose {g : Gh} (h : Rep g m) {j n : Nat} (hj : j < g.P.length) (hl : g.P.length = n + 1) {rv ev : Value} {kind : Int} (h0 : 0 ≤ kind) (h5 : kind ≤ 5) :
    Rep { g with rv := rv, ev := ev, P := fillP g.P j, f := putF (putF g.f (g.P[n]'(by omega)).k (some (j : Int))) g.P[j].k none, n := g.n - costN g.P[j].k (m.f g.P[j].k) } (loseM g.P[j].k kind m) := by
  have hk := h.key (List.getElem_mem hj)
  have hpm : List.Perm ((fillP g.P j).map (·.k)) (Ca.dropK g.P[j].k m.K) := by
    have h1 := (fillP_perm hj hl).map (·.k)
    rw [List.map_cons] at h1
    have h2 := (h1.symm.trans h.pm).trans (dropK_perm h.pre.kn hk)
    exact (List.perm_cons _).1 h2
  refine ⟨h.tab.fill hj hl, hpm, fun p hp => h.it p (fillP_mem hj hl hp), ?_, h.pre.lose _ _ h0 h5⟩
  have := sumB_drop (f := m.f) h.pre.kn hk
  show g.n - _ = ((sumB m.f (Ca.dropK g.P[j].k m.K) : Nat) : Int)
  rw [h.n, this]
  omega
set_option maxHeartbeats 4000000 in
set_option maxRecDepth 100000 in
theorem lose_calls (h : Hp o w (storeT T m :: l)) (hw : Below w.heap.size w wb) (hc : Ctx o) (k : ByteArray) (hk : k.size ≤ 1000) (kind : Int) (h0 : 0 ≤ kind) (h5 : kind ≤ 5) (hn : m.K.length ≤ 400) (he : m.ev.length ≤ 1000000) :
    Calls Tryz.prog 61 #[ptr T, .string k, .int .i64 kind] wb fun e w' => e = .returned (.bool (Ca.inK k m.K)) ∧ Hp o w' (storeT T (goneM k kind m) :: l) := by
  obtain ⟨⟨E, U, X, rv, P, f, ev, gn⟩, hr, h⟩ := store_open (h.bel hw)
  have h : Hp o wb (cellsT T [.pointer (some ⟨E, 0, none⟩), rv, .pointer (some ⟨U, 0, none⟩), .pointer (some ⟨X, 0, none⟩), .int .i64 gn, .int .i64 m.b, ev] :: tabT E f P.length :: rowsT rv P :: roT (rowsR P) :: recT U m.K :: expT X m.S :: evsT ev m.ev :: l) := h
  have hr1 : TabOf f P := hr.tab
  have hr2 : (f k).isSome = Ca.inK k m.K := hr.mem k
  have hr3 : P.length = m.K.length := hr.len
  have hr4 : gn = sumB m.f m.K := hr.n
  have hr5 : ∀ p ∈ P, p.k.size ≤ 1000 := fun p hp => by have := hr.pre.kz _ (hr.key hp); omega
  have c0 := h.cell 0 rfl
  have HH := Lib.hid h
  have HR := Lib.hid hr
  have HT := Lib.hid (tab_get (h.pull 1 rfl) (Below.refl _ _) k hk)
  rw [hr2] at HT
  clear h hw
  unfold ptr at *
  go_enter Tryz.func61, Tryz.ntmps61
  go_wp2_with fail
  refine HT.out.mono ?_; rintro en w1 ⟨rfl, h1, -⟩
  have H1 : Hid (Hp o w1 (cellsT T [.pointer (some ⟨E, 0, none⟩), rv, .pointer (some ⟨U, 0, none⟩), .pointer (some ⟨X, 0, none⟩), .int .i64 gn, .int .i64 m.b, ev] :: tabT E f P.length :: rowsT rv P :: roT (rowsR P) :: recT U m.K :: expT X m.S :: evsT ev m.ev :: l)) := Lib.hid (h1.push 1)
  clear h1 HT c0
  cases hin : Ca.inK k m.K with
  | false =>
    have HG : Hid (goneM k kind m = m) := Lib.hid (by unfold goneM; rw [hin]; rfl)
    have HIN := Lib.hid hin
    clear hin hr hr1 hr2 hr3 hr4
    go_wp2_with fail
    go_ret
    refine ⟨by rw [HIN.out]; rfl, ?_⟩
    rw [HG.out]
    exact store_shut HR.out H1.out
  | true =>
    obtain ⟨j, hj, hpk, hfj, hpi⟩ : ∃ j, ∃ hj : j < P.length, P[j].k = k ∧ f k = some (j : Int) ∧ P[j].i = m.f k := hr.rowOf hin
    have HG : Hid (goneM k kind m = loseM k kind m) := Lib.hid (by unfold goneM; rw [hin]; rfl)
    have HIN := Lib.hid hin
    rw [hfj]
    obtain ⟨n, HL⟩ : ∃ n, Hid (P.length = n + 1) := ⟨P.length - 1, Lib.hid (by omega)⟩
    have hn1 : n < P.length := by have := HL.out; omega
    have HJ := Lib.hid hj
    have hn4 : n ≤ 400 := by have := HL.out; omega
    have hjc : (j : Int) < (n : Int) + 1 := by have := HL.out; omega
    have hkm : k ∈ m.K := Ca.inK_iff.1 hin
    have hrt : Ia.RightP (m.f k) := hr.pre.ri k hkm
    have hcst : costN k (m.f k) ≤ 2000000 := costN_le2 hk hrt
    have hgs := hr.pre.sum_le
    have hg1 : 0 ≤ gn ∧ gn ≤ 1000000000 := by omega
    have hcn : (costN k (m.f k) : Int) ≤ gn := by
      have := sumB_drop (f := m.f) hr.pre.kn (k := k) hkm
      omega
    have HRl : Hid (∀ rv ev, Rep ⟨E, U, X, rv, fillP P j, putF (putF f (P[n]'hn1).k (some (j : Int))) k none, ev, gn - costN k (m.f k)⟩ (loseM k kind m)) := Lib.hid fun rv ev => by
      have := hr.lose hj HL.out (rv := rv) (ev := ev) (kind := kind) h0 h5
      simp only [hpk] at this
      exact this
    have HSl := Lib.hid hr.pre.sl
    have HKz := Lib.hid hr5
    have HTf := Lib.hid hr1
    obtain ⟨a, cc, rfl, -, hcc, ha⟩ := (H1.out.pull 2 rfl).rowForm
    obtain ⟨gb, rfl⟩ := ha (by omega)
    have HD := Lib.hid (row_cells (H1.out.pull 2 rfl) hj)
    have HIn : Hid (∀ W, Below w1.heap.size w1 W → Ia.InF W P[j].a (m.f k).l) := Lib.hid fun W hb => by
      rw [← hpi]
      exact ((H1.out.bel hb).pull 3 rfl).say fun {A R} hp _ hR => ((hp.2 _ (List.getElem_mem hj)).2.2).inF hR
    simp only [hpi] at HD
    have HPK := Lib.hid hpk
    clear ha hpk hfj hr hpi hin hr1 hr2 hr3 hr4 hr5 hkm
    generalize P[j].a = pa at *
    generalize P[j].c = pc at *
    generalize m.f k = it at *
    obtain ⟨F, F1, F2, F3⟩ := Sp.ovr w1
    have c1 := Sp.ovr_cell F1 (H1.out.cell 1 rfl)
    have c4 := Sp.ovr_cell F1 (H1.out.cell 4 rfl)
    have d1 := Sp.ovr_cell F1 HD.out.2.1
    have d2 := Sp.ovr_cell F1 HD.out.2.2.1
    have d3 := Sp.ovr_cell F1 HD.out.2.2.2
    rw [HL.out] at c1
    have HF1 := Lib.hid F1
    have HF3 := Lib.hid F3
    have HCo := Lib.hid fun x => cost_calls (F x) (hc.below (H1.out.below.trans ((F1 x).mono H1.out.below.size))) k hk it hrt pa pc (HIn.out _ (F1 x))
    have HRt := Lib.hid hrt
    clear F1 F3 hrt HD HIn
    go_wp2_with fail
    refine Go.Proofs.YtmjlhmohglbecaaGreatDoor.wp_region_tail F 14 (by kernel_rfl) (by kernel_rfl) F2 ?_
    simp only [List.take_succ_cons, List.take_zero, List.drop_succ_cons, List.drop_zero]
    repeat (go_big_quiet_step ((go_at_call 48; with_reducible exact Sp.q_ovr HF3.out (HCo.out _))))
    refine wpQuiet_nil ?_
    intro x1
    have H2 := Lib.hid (H1.out.bel (HF1.out x1))
    clear c1 c4 d1 d2 d3 F2 HF1 HF3 HCo H1
    generalize F x1 = W2 at *
    have z4 := H2.out.free 4 rfl
    have c4 := H2.out.cell 4 rfl
    obtain ⟨q, hq⟩ : ∃ q : Int, gn - (costN k it : Int) = q := ⟨_, rfl⟩
    have hq0 : 0 ≤ q ∧ q ≤ 1000000000 := by omega
    rw [hq] at HRl
    have hwq : IntKind.i64.wrap q = q := by rw [IntKind.wrap_i64]; omega
    have H3 : Hid (Hp o (W2.setCell ⟨T, 4, none⟩ (.int .i64 q)) (cellsT T [.pointer (some ⟨E, 0, none⟩), .slice (some ⟨gb, 0, none⟩) P.length cc, .pointer (some ⟨U, 0, none⟩), .pointer (some ⟨X, 0, none⟩), .int .i64 q, .int .i64 m.b, ev] :: tabT E f P.length :: rowsT (.slice (some ⟨gb, 0, none⟩) P.length cc) P :: roT (rowsR P) :: recT U m.K :: expT X m.S :: evsT ev m.ev :: l)) := Lib.hid (H2.out.cellSet 4 (.int .i64 q) rfl)
    go_upto_region 5 with fail
    generalize W2.setCell ⟨T, 4, none⟩ (.int .i64 q) = W3 at *
    clear c4 z4 H2 hwq hq
    have HFi := Lib.hid (fill_calls (wb := W3) H3.out (Below.refl _ _) HJ.out HL.out (by omega) HTf.out HKz.out)
    unfold ptr at HFi
    go_wp2_with fail
    refine HFi.out.mono ?_; rintro en w4 ⟨rfl, rv', h4⟩
    have H4 := Lib.hid h4
    have e0 := h4.cell 0 rfl
    have HTd := Lib.hid (tab_drop (h4.pull 1 rfl) (Below.refl _ _) k hk)
    clear h4 HFi H3
    go_wp2_with fail
    refine HTd.out.mono ?_; rintro en w5 ⟨rfl, h5', -⟩
    have h5' := h5'.push 1
    have hfk : (putF f (P[n]'hn1).k (some (j : Int)) k).isSome = true := by
      unfold putF
      split
      · rfl
      · rw [← HPK.out, HTf.out.some HJ.out]; rfl
    rw [hfk] at h5'
    have H5 : Hid (Hp o w5 (cellsT T [.pointer (some ⟨E, 0, none⟩), rv', .pointer (some ⟨U, 0, none⟩), .pointer (some ⟨X, 0, none⟩), .int .i64 q, .int .i64 m.b, ev] :: tabT E (putF (putF f (P[n]'hn1).k (some (j : Int))) k none) n :: rowsT rv' (fillP P j) :: roT (rowsR (fillP P j)) :: recT U m.K :: expT X m.S :: evsT ev m.ev :: l)) := Lib.hid h5'
    clear h5' hfk H4 HTd e0
    have e2 := H5.out.cell 2 rfl
    have hkm : k.size ≤ maxLen := by unfold maxLen; omega
    have HRd := Lib.hid (rec_drop (H5.out.pull 4 rfl) (Below.refl _ _) k hkm)
    go_wp2_with fail
    refine HRd.out.mono ?_; rintro en w6 ⟨rfl, h6, -⟩
    have H6 : Hid (Hp o w6 (cellsT T [.pointer (some ⟨E, 0, none⟩), rv', .pointer (some ⟨U, 0, none⟩), .pointer (some ⟨X, 0, none⟩), .int .i64 q, .int .i64 m.b, ev] :: tabT E (putF (putF f (P[n]'hn1).k (some (j : Int))) k none) n :: rowsT rv' (fillP P j) :: roT (rowsR (fillP P j)) :: recT U (Ca.dropK k m.K) :: expT X m.S :: evsT ev m.ev :: l)) := Lib.hid (h6.push 4)
    clear h6 HRd H5 e2
    have e3 := H6.out.cell 3 rfl
    have HXd := Lib.hid (exp_drop (H6.out.pull 5 rfl) (Below.refl _ _) k hkm (by have := HSl.out; omega))
    go_wp2_with fail
    refine HXd.out.mono ?_; rintro en w7 ⟨rfl, h7, -⟩
    have H7 : Hid (Hp o w7 (cellsT T [.pointer (some ⟨E, 0, none⟩), rv', .pointer (some ⟨U, 0, none⟩), .pointer (some ⟨X, 0, none⟩), .int .i64 q, .int .i64 m.b, ev] :: tabT E (putF (putF f (P[n]'hn1).k (some (j : Int))) k none) n :: rowsT rv' (fillP P j) :: roT (rowsR (fillP P j)) :: recT U (Ca.dropK k m.K) :: expT X (Ea.dropD k m.S) :: evsT ev m.ev :: l)) := Lib.hid (h7.push 5)
    clear h7 HXd H6 e3
    have HTl := Lib.hid (tell_calls ((H7.out.pull 6 rfl).push 1) (Below.refl _ _) kind k he)
    unfold ptr at HTl
    go_wp2_with fail
    refine HTl.out.mono ?_; rintro en w8 ⟨rfl, ev', h8⟩
    have H8 := Lib.hid ((h8.pull 1 rfl).push 6)
    clear h8 HTl H7
    go_wp2_with fail
    go_ret
    refine ⟨by rw [HIN.out]; rfl, ?_⟩
    rw [HG.out]
    have hrl := HRl.out rv' ev'
    have h9 := H8.out
    generalize (P[n]'hn1).k = kn at hrl h9
    refine store_shut hrl ?_
    rw [show n = (fillP P j).length from (fillP_len HL.out).symm] at h9
    exact h9
end
end Go.Proofs.YtmjlhmohglbecaaGreatDoor.Sa
/- Package store: end, Drop, Expire, Persist, Ttl. Conditions: a Store as it lies; the library's variables hold what start-up lays; bounds. -/
namespace Go.Proofs.YtmjlhmohglbecaaGreatDoor.Sa
set_option linter.unusedVariables false
set_option linter.unusedSimpArgs false
open Go.ChangeShapes Go.WideShapes Go.ChangeAt Go.RowKit
open Sp (Th Hp Stays All Ro roT rowT cellsT exT puT star)
section
variable {o w w' wb : World} {l : List Th} {T : Nat} {m : Md}
theorem store_open2 (h : Hp o w (storeT T m :: l)) : ∃ E U X rv P f ev gn, Rep ⟨E, U, X, rv, P, f, ev, gn⟩ m ∧ Hp o w (cellsT T [.pointer (some ⟨E, 0, none⟩), rv, .pointer (some ⟨U, 0, none⟩), .pointer (some ⟨X, 0, none⟩), .int .i64 gn, .int .i64 m.b, ev] :: tabT E f P.length :: rowsT rv P :: roT (rowsR P) :: recT U m.K :: expT X m.S :: evsT ev m.ev :: l) := by
  obtain ⟨⟨E, U, X, rv, P, f, ev, gn⟩, hr, h⟩ := store_open h
  exact ⟨E, U, X, rv, P, f, ev, gn, hr, h⟩
theorem store_shut2 {E U X : Nat} {rv ev : Value} {P : List Rw} {f : ByteArray → Option Int} {gn b : Int} {K : List ByteArray} {S : List Ea.Du} {evl : List (Int × ByteArray)} (hr : Rep ⟨E, U, X, rv, P, f, ev, gn⟩ m) (hK : m.K = K) (hS : m.S = S) (hb : m.b = b) (he : m.ev = evl)
    (h : Hp o w (cellsT T [.pointer (some ⟨E, 0, none⟩), rv, .pointer (some ⟨U, 0, none⟩), .pointer (some ⟨X, 0, none⟩), .int .i64 gn, .int .i64 b, ev] :: tabT E f P.length :: rowsT rv P :: roT (rowsR P) :: recT U K :: expT X S :: evsT ev evl :: l)) : Hp o w (storeT T m :: l) := by
  subst hK hS hb he
  exact store_shut hr h
theorem Rep.turn {g : Gh} {m' : Md} (h : Rep g m) (hK : m'.K = m.K) (hf : m'.f = m.f) (hp : Pre m') (rv ev : Value) : Rep { g with rv := rv, ev := ev } m' :=
  ⟨h.tab, by rw [hK]; exact h.pm, fun p hp => by rw [hf]; exact h.it p hp, by rw [hK, hf]; exact h.n, hp⟩
set_option maxHeartbeats 4000000 in
set_option maxRecDepth 100000 in
theorem end_calls (h : Hp o w (storeT T m :: l)) (hw : Below w.heap.size w wb) (hc : Ctx o) (k : ByteArray) (hk : k.size ≤ 1000) (now : Int) (hn : m.K.length ≤ 400) (he : m.ev.length ≤ 1000000) :
    Calls Tryz.prog 44 #[ptr T, .string k, .int .i64 now] wb fun e w' => e = .returned (.tuple #[]) ∧ Hp o w' (storeT T (endM k now m) :: l) := by
  have HL := Lib.hid (fun W (hb : Below wb.heap.size wb W) => lose_calls (wb := W) (h.bel hw) hb hc k hk 3 (by decide) (by decide) hn he)
  have H0 := Lib.hid (h.bel hw)
  obtain ⟨E, U, X, rv, P, f, ev, gn, hr, h⟩ := store_open2 (h.bel hw)
  have hdi : Ea.inD k m.S = true → Ca.inK k m.K = true := fun hh => Ca.inK_iff.2 (hr.pre.due_in hh)
  have c3 := h.cell 3 rfl
  have HX := Lib.hid (exp_get (h.pull 5 rfl) (Below.refl _ _) k (by unfold maxLen; omega))
  have HE : Hid (endM k now m = if (Ea.inD k m.S && decide (Ea.getD k m.S ≤ now)) = true then loseM k 3 m else m) := Lib.hid rfl
  have HG : Hid (Ea.inD k m.S = true → goneM k 3 m = loseM k 3 m) := Lib.hid fun hh => by unfold goneM; rw [hdi hh]; rfl
  clear h hr hdi
  generalize Ea.getD k m.S = t at *
  unfold ptr at *
  go_enter Tryz.func44, Tryz.ntmps44
  go_wp2_with fail
  refine HX.out.mono ?_; rintro en w1 ⟨rfl, rfl⟩
  cases hin : Ea.inD k m.S with
  | false =>
    have HIN := Lib.hid hin
    clear hin
    go_wp2_with fail
    go_end0
    refine ⟨rfl, ?_⟩
    rw [HE.out, HIN.out, Bool.false_and, if_neg (by decide)]
    exact H0.out
  | true =>
    have HIN := Lib.hid hin
    clear hin
    by_cases ht : t ≤ now
    · go_wp2_with fail
      refine (HL.out _ (Below.refl _ _)).mono ?_; rintro en w2 ⟨rfl, h2⟩
      have H2 := Lib.hid h2
      clear h2
      go_wp2_with fail
      go_end0
      refine ⟨rfl, ?_⟩
      rw [HE.out, HIN.out, decide_eq_true ht, Bool.true_and, if_pos rfl, ← HG.out HIN.out]
      exact H2.out
    · go_wp2_with fail
      go_end0
      refine ⟨rfl, ?_⟩
      rw [HE.out, HIN.out, decide_eq_false (by omega), Bool.true_and, if_neg (by decide)]
      exact H0.out
/-- What Drop makes of a store. -/
def dropM (k : ByteArray) (now : Int) (m : Md) : Md := goneM k 2 (endM k now m)
theorem Ok.drop {m : Md} (h : Ok m) (k : ByteArray) (now : Int) : Ok (dropM k now m) := (h.end_ k now).gone k 2 (by decide) (by decide)
theorem lose_ev (k : ByteArray) (kind : Int) (m : Md) : (loseM k kind m).ev.length = m.ev.length + 1 := by simp [loseM]
theorem end_ev (k : ByteArray) (now : Int) (m : Md) : (endM k now m).ev.length ≤ m.ev.length + 1 := by
  unfold endM
  split
  · rw [lose_ev]; omega
  · omega
theorem gone_ev (k : ByteArray) (kind : Int) (m : Md) : (goneM k kind m).ev.length ≤ m.ev.length + 1 := by
  unfold goneM
  split
  · rw [lose_ev]; omega
  · omega
set_option maxHeartbeats 4000000 in
set_option maxRecDepth 100000 in
theorem drop_calls (h : Hp o w (storeT T m :: l)) (hw : Below w.heap.size w wb) (hc : Ctx o) (k : ByteArray) (hk : k.size ≤ 1000) (now : Int) (hn : m.K.length ≤ 400) (he : m.ev.length ≤ 100000) :
    Calls Tryz.prog 29 #[ptr T, .string k, .int .i64 now] wb fun e w' => e = .returned (.bool (Ca.inK k (endM k now m).K)) ∧ Hp o w' (storeT T (dropM k now m) :: l) := by
  have HE := Lib.hid (end_calls (h.bel hw) (Below.refl _ _) hc k hk now hn (by omega))
  have h1 := end_len k now m
  have h2 := end_ev k now m
  clear h hw
  unfold ptr at *
  go_enter Tryz.func29, Tryz.ntmps29
  go_wp2_with fail
  refine HE.out.mono ?_; rintro en w1 ⟨rfl, H1⟩
  have HL := Lib.hid (lose_calls H1 (Below.refl _ _) hc k hk 2 (by decide) (by decide) (by omega) (by omega))
  unfold ptr at HL
  clear H1 HE
  go_wp2_with fail
  refine HL.out.mono ?_; rintro en w2 ⟨rfl, H2⟩
  have H2 := Lib.hid H2
  go_wp2_with fail
  go_ret
  exact ⟨rfl, H2.out⟩
def expireM (k : ByteArray) (when now : Int) (m : Md) : Md :=
  if when ≤ now ∨ when < 0 then goneM k 2 (endM k now m) else if Ca.inK k (endM k now m).K = true then dueM k (min when 4611686018427387904) (endM k now m) else endM k now m
theorem Ok.expire {m : Md} (h : Ok m) (k : ByteArray) (when now : Int) : Ok (expireM k when now m) := by
  unfold expireM
  split
  · exact (h.end_ k now).gone k 2 (by decide) (by decide)
  · rename_i hw
    split
    · rename_i hk
      exact (h.end_ k now).due (Ca.inK_iff.1 hk) (by omega) (by omega)
    · exact h.end_ k now
set_option maxHeartbeats 4000000 in
set_option maxRecDepth 100000 in
theorem expire_calls (h : Hp o w (storeT T m :: l)) (hw : Below w.heap.size w wb) (hok : Ok m) (hc : Ctx o) (k : ByteArray) (hk : k.size ≤ 1000) (when now : Int) (hn : m.K.length ≤ 400) (he : m.ev.length ≤ 100000) :
    Calls Tryz.prog 31 #[ptr T, .string k, .int .i64 when, .int .i64 now] wb fun e w' => e = .returned (.bool (Ca.inK k (endM k now m).K)) ∧ Hp o w' (storeT T (expireM k when now m) :: l) := by
  have HE := Lib.hid (end_calls (h.bel hw) (Below.refl _ _) hc k hk now hn (by omega))
  have h1 := end_len k now m
  have h2 := end_ev k now m
  have HO := Lib.hid (hok.end_ k now)
  clear h hw hok
  have HM : Hid (expireM k when now m = if when ≤ now ∨ when < 0 then goneM k 2 (endM k now m) else if Ca.inK k (endM k now m).K = true then dueM k (min when 4611686018427387904) (endM k now m) else endM k now m) := Lib.hid rfl
  generalize expireM k when now m = M at *
  generalize endM k now m = m1 at *
  unfold ptr at *
  go_enter Tryz.func31, Tryz.ntmps31
  go_wp2_with fail
  refine HE.out.mono ?_; rintro en w1 ⟨rfl, H1⟩
  have HL := Lib.hid (lose_calls H1 (Below.refl _ _) hc k hk 2 (by decide) (by decide) (by omega) (by omega))
  unfold ptr at HL
  have H1 := Lib.hid H1
  clear HE
  by_cases ha : when ≤ now
  · have HM2 : Hid (M = goneM k 2 m1) := Lib.hid (by rw [HM.out, if_pos (.inl ha)])
    clear HM
    go_wp2_with fail
    refine HL.out.mono ?_; rintro en w2 ⟨rfl, H2⟩
    have H2 := Lib.hid H2
    go_wp2_with fail
    go_ret
    exact ⟨rfl, by rw [HM2.out]; exact H2.out⟩
  · by_cases hb : when < 0
    · have HM2 : Hid (M = goneM k 2 m1) := Lib.hid (by rw [HM.out, if_pos (.inr hb)])
      clear HM
      go_wp2_with fail
      refine HL.out.mono ?_; rintro en w2 ⟨rfl, H2⟩
      have H2 := Lib.hid H2
      go_wp2_with fail
      go_ret
      exact ⟨rfl, by rw [HM2.out]; exact H2.out⟩
    · have HM2 : Hid (M = if Ca.inK k m1.K = true then dueM k (min when 4611686018427387904) m1 else m1) := Lib.hid (by rw [HM.out, if_neg (by omega)])
      clear HM HL
      obtain ⟨E, U, X, rv, P, f, ev, gn, hr, h⟩ := store_open2 H1.out
      have c2 := h.cell 2 rfl
      have HR := Lib.hid hr
      have HHs := Lib.hid (rec_has (h.pull 4 rfl) (Below.refl _ _) k (by unfold maxLen; omega) _ (Lib.hid rfl))
      have HH := Lib.hid h
      clear h hr
      cases hin : Ca.inK k m1.K with
      | false =>
        rw [hin] at HHs
        have HIN := Lib.hid hin
        clear hin
        go_wp2_with fail
        refine HHs.out.mono ?_; rintro en w2 ⟨rfl, rfl⟩
        go_wp2_with fail
        go_ret
        exact ⟨by rw [HIN.out]; rfl, by rw [HM2.out, HIN.out, if_neg (by decide)]; exact H1.out⟩
      | true =>
        rw [hin] at HHs
        have HIN := Lib.hid hin
        clear hin
        have c3 := HH.out.cell 3 rfl
        have ht0 : 0 ≤ min when 4611686018427387904 ∧ min when 4611686018427387904 ≤ 4611686018427387904 := by omega
        have HPt := Lib.hid (exp_put (HH.out.pull 5 rfl) (Below.refl _ _) k (by unfold maxLen; omega) (min when 4611686018427387904) ht0.1 ht0.2 (by have := HR.out.pre.sl; omega))
        have HTM : Hid (Ok (dueM k (min when 4611686018427387904) m1)) := Lib.hid (HO.out.due (Ca.inK_iff.1 HIN.out) ht0.1 ht0.2)
        clear ht0
        go_wp2_with fail
        refine HHs.out.mono ?_; rintro en w2 ⟨rfl, rfl⟩
        go_wp2_with fail
        refine HPt.out.mono ?_; rintro en w3 ⟨rfl, h3, -⟩
        have h3 := h3.push 5
        have HTl := Lib.hid (tell_calls ((h3.pull 6 rfl).push 1) (Below.refl _ _) 1 k (by omega))
        unfold ptr at HTl
        clear h3 HPt
        go_wp2_with fail
        refine HTl.out.mono ?_; rintro en w4 ⟨rfl, ev', h4⟩
        have H4 := Lib.hid ((h4.pull 1 rfl).push 6)
        clear h4 HTl
        go_wp2_with fail
        go_ret
        refine ⟨by rw [HIN.out]; rfl, ?_⟩
        rw [HM2.out, HIN.out, if_pos rfl]
        exact store_shut2 (HR.out.turn (m' := dueM k (min when 4611686018427387904) m1) rfl rfl HTM.out.toPre rv ev') rfl rfl rfl rfl H4.out
def persistM (k : ByteArray) (now : Int) (m : Md) : Md := if Ea.inD k (endM k now m).S = true then undueM k (endM k now m) else endM k now m
theorem Ok.persist {m : Md} (h : Ok m) (k : ByteArray) (now : Int) : Ok (persistM k now m) := by
  unfold persistM
  split
  · exact (h.end_ k now).undue k
  · exact h.end_ k now
set_option maxHeartbeats 4000000 in
set_option maxRecDepth 100000 in
theorem persist_calls (h : Hp o w (storeT T m :: l)) (hw : Below w.heap.size w wb) (hok : Ok m) (hc : Ctx o) (k : ByteArray) (hk : k.size ≤ 1000) (now : Int) (hn : m.K.length ≤ 400) (he : m.ev.length ≤ 100000) :
    Calls Tryz.prog 33 #[ptr T, .string k, .int .i64 now] wb fun e w' => e = .returned (.bool (Ea.inD k (endM k now m).S)) ∧ Hp o w' (storeT T (persistM k now m) :: l) := by
  have HE := Lib.hid (end_calls (h.bel hw) (Below.refl _ _) hc k hk now hn (by omega))
  have h1 := end_len k now m
  have h2 := end_ev k now m
  have HO := Lib.hid (hok.end_ k now)
  clear h hw hok
  have HM : Hid (persistM k now m = if Ea.inD k (endM k now m).S = true then undueM k (endM k now m) else endM k now m) := Lib.hid rfl
  generalize persistM k now m = M at *
  generalize endM k now m = m1 at *
  unfold ptr at *
  go_enter Tryz.func33, Tryz.ntmps33
  go_wp2_with fail
  refine HE.out.mono ?_; rintro en w1 ⟨rfl, H1⟩
  have H1 := Lib.hid H1
  clear HE
  obtain ⟨E, U, X, rv, P, f, ev, gn, hr, h⟩ := store_open2 H1.out
  have c3 := h.cell 3 rfl
  have HR := Lib.hid hr
  have HX := Lib.hid (exp_drop (h.pull 5 rfl) (Below.refl _ _) k (by unfold maxLen; omega) (by have := hr.pre.sl; omega))
  clear h hr
  cases hin : Ea.inD k m1.S with
  | false =>
    rw [hin] at HX
    have HIN := Lib.hid hin
    clear hin
    go_wp2_with fail
    refine HX.out.mono ?_; rintro en w2 ⟨rfl, h2, -⟩
    have H2 := Lib.hid (h2.push 5)
    clear h2
    go_wp2_with fail
    go_ret
    refine ⟨by rw [HIN.out]; rfl, ?_⟩
    rw [HM.out, HIN.out, if_neg (by decide)]
    have hd : Ea.dropD k m1.S = m1.S := Ea.drop_none fun d hd e => by
      have : Ea.inD k m1.S = true := List.any_eq_true.2 ⟨d, hd, by simpa using e⟩
      rw [HIN.out] at this; cases this
    have h4 := H2.out
    rw [hd] at h4
    exact store_shut2 HR.out rfl rfl rfl rfl h4
  | true =>
    rw [hin] at HX
    have HIN := Lib.hid hin
    clear hin
    go_wp2_with fail
    refine HX.out.mono ?_; rintro en w2 ⟨rfl, h2, -⟩
    have h3 := h2.push 5
    have HTl := Lib.hid (tell_calls ((h3.pull 6 rfl).push 1) (Below.refl _ _) 1 k (by omega))
    unfold ptr at HTl
    clear h2 h3 HX
    go_wp2_with fail
    refine HTl.out.mono ?_; rintro en w4 ⟨rfl, ev', h4⟩
    have H4 := Lib.hid ((h4.pull 1 rfl).push 6)
    clear h4 HTl
    go_wp2_with fail
    go_ret
    refine ⟨by rw [HIN.out]; rfl, ?_⟩
    rw [HM.out, HIN.out, if_pos rfl]
    exact store_shut2 (HR.out.turn (m' := undueM k m1) rfl rfl (HO.out.undue k).toPre rv ev') rfl rfl rfl rfl H4.out
/-- What Ttl says of a store that has let go who ended. -/
def ttlN (k : ByteArray) (now : Int) (m : Md) : Int := if Ca.inK k m.K = true then (if Ea.inD k m.S = true then Ea.getD k m.S - now else -1) else -2
set_option maxHeartbeats 4000000 in
set_option maxRecDepth 100000 in
theorem ttl_calls (h : Hp o w (storeT T m :: l)) (hw : Below w.heap.size w wb) (hok : Ok m) (hc : Ctx o) (k : ByteArray) (hk : k.size ≤ 1000) (now : Int) (hn0 : 0 ≤ now) (hn1 : now ≤ 4611686018427387904) (hn : m.K.length ≤ 400) (he : m.ev.length ≤ 100000) :
    Calls Tryz.prog 35 #[ptr T, .string k, .int .i64 now] wb fun e w' => e = .returned (.int .i64 (ttlN k now (endM k now m))) ∧ Hp o w' (storeT T (endM k now m) :: l) := by
  have HE := Lib.hid (end_calls (h.bel hw) (Below.refl _ _) hc k hk now hn (by omega))
  have HO := Lib.hid (hok.end_ k now)
  clear h hw hok
  generalize endM k now m = m1 at *
  unfold ptr at *
  have HM : Hid (ttlN k now m1 = if Ca.inK k m1.K = true then (if Ea.inD k m1.S = true then Ea.getD k m1.S - now else -1) else -2) := Lib.hid rfl
  generalize ttlN k now m1 = M at *
  go_enter Tryz.func35, Tryz.ntmps35
  go_wp2_with fail
  refine HE.out.mono ?_; rintro en w1 ⟨rfl, H1⟩
  have H1 := Lib.hid H1
  clear HE
  obtain ⟨E, U, X, rv, P, f, ev, gn, hr, h⟩ := store_open2 H1.out
  have c2 := h.cell 2 rfl
  have c3 := h.cell 3 rfl
  have HHs := Lib.hid (rec_has (h.pull 4 rfl) (Below.refl _ _) k (by unfold maxLen; omega) _ (Lib.hid rfl))
  have HX := Lib.hid (exp_get (h.pull 5 rfl) (Below.refl _ _) k (by unfold maxLen; omega))
  clear h hr
  cases hin : Ca.inK k m1.K with
  | false =>
    rw [hin] at HHs
    have HMv : Hid (M = -2) := Lib.hid (by rw [HM.out, hin, if_neg (by decide)])
    clear hin
    go_wp2_with fail
    refine HHs.out.mono ?_; rintro en w2 ⟨rfl, rfl⟩
    go_wp2_with fail
    go_ret
    exact ⟨by rw [HMv.out]; rfl, H1.out⟩
  | true =>
    rw [hin] at HHs
    cases hid : Ea.inD k m1.S with
    | false =>
      rw [hid] at HX
      have HMv : Hid (M = -1) := Lib.hid (by rw [HM.out, hin, if_pos rfl, hid, if_neg (by decide)])
      clear hin hid
      go_wp2_with fail
      refine HHs.out.mono ?_; rintro en w2 ⟨rfl, rfl⟩
      go_wp2_with fail
      refine HX.out.mono ?_; rintro en w2 ⟨rfl, rfl⟩
      go_wp2_with fail
      go_ret
      exact ⟨by rw [HMv.out]; rfl, H1.out⟩
    | true =>
      rw [hid] at HX
      have HMv : Hid (M = Ea.getD k m1.S - now) := Lib.hid (by rw [HM.out, hin, if_pos rfl, hid, if_pos rfl])
      have hrg := HO.out.due_rng hid
      clear hin hid
      generalize Ea.getD k m1.S = t at *
      go_wp2_with fail
      refine HHs.out.mono ?_; rintro en w2 ⟨rfl, rfl⟩
      go_wp2_with fail
      refine HX.out.mono ?_; rintro en w2 ⟨rfl, rfl⟩
      go_wp2_with fail
      go_ret
      exact ⟨by rw [HMv.out]; rfl, H1.out⟩
end
end Go.Proofs.YtmjlhmohglbecaaGreatDoor.Sa
