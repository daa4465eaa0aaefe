/- Package reader's read where the frame is there. Conditions: the frame's contract. -/
import Derived.Test.YtimgkbpiengnjaaGreatDoorRc1
namespace Go.Proofs.YtimgkbpiengnjaaGreatDoor.Ln
open Go.ChangeShapes Go.WideShapes Go.ChangeAt Go.RowKit

theorem six_frozen (W : World) (X : Nat) (v0 v1 v2 v3 v4 v5 : Value) (q : Addr) : ((((((W.setCell ⟨X, 0, none⟩ v0).setCell ⟨X, 1, none⟩ v1).setCell ⟨X, 2, none⟩ v2).setCell ⟨X, 3, none⟩ v3).setCell ⟨X, 4, none⟩ v4).setCell ⟨X, 5, none⟩ v5).drew.frozen? q = W.frozen? q := by
  have e : ∀ V : World, V.drew.frozen? q = V.frozen? q := fun _ => rfl
  rw [e, World.frozen?_setCell, World.frozen?_setCell, World.frozen?_setCell, World.frozen?_setCell, World.frozen?_setCell, World.frozen?_setCell]
set_option maxRecDepth 100000 in
set_option maxHeartbeats 200000 in
theorem read_ok (S B : Nat) (w : World) (l t : List UInt8) (r : Int) (k : Int) (T : ByteArray) (hlt : t.length ≤ l.length) (hll : l.length ≤ 1000000) (h : Src S B w l r)
    (hF : ∀ w', FrS S w w' → Src S B w' l r → Calls Tryz.prog 12 #[.pointer (some ⟨S, 0, none⟩), .int .i64 0] w' fun e w'' => e = .returned (.agg #[.int .i64 k, .string T, .int .i64 0, .float .f64 0, .bool false, .slice none 0 0]) ∧ FrS S w' w'' ∧ Src S B w'' t r) :
    Calls Tryz.prog 10 #[.pointer (some ⟨S, 0, none⟩)] w fun e w' => e = .returned (.tuple #[.agg #[.int .i64 k, .string T, .int .i64 0, .float .f64 0, .bool false, .slice none 0 0], .int .i64 ((l.length : Int) - t.length), .int .i64 0]) ∧ FrS S w w' := by
  have hmf : ∀ (fn : Fn) (first cap : Array Value) (w : World), (Instr.makeFunc fn first cap).run Tryz.prog w = .ok (.func fn first cap) w := fun _ _ _ _ => rfl
  have HR : Hid (FrS S w (rbox w)) := Lib.hid (Fr.of_below (rbox_below w))
  have HF := Lib.hid (hF (rbox w) HR.out (h.below (rbox_below w)))
  have HS := Lib.hid h.lo
  obtain ⟨a, c, h1, -, -⟩ := (h.below (rbox_below w)).row
  clear h hF
  go_enter_defers Tryz.func10, Tryz.ntmps10
  go_wp2_with fail
  refine HF.out.mono ?_
  rintro en w3 ⟨rfl, hb3, hs3⟩
  obtain ⟨⟨c0, c1, c2, c3, c4, c5⟩, d0, f0, fz⟩ := rbox_cells HS.out hb3
  have z0 := fz 0
  have z1 := fz 1
  have z2 := fz 2
  have z3 := fz 3
  have z4 := fz 4
  have z5 := fz 5
  have HS3 := Lib.hid hs3
  have HB3 := Lib.hid hb3
  obtain ⟨a3, ac, s0, -, -⟩ := hs3.row
  have HK := Lib.hid (six_put (k := k) (T := T) (Nat.ne_of_lt HS.out) c0 c1 c2 c3 c4 c5 s0 d0)
  clear hs3 hb3 fz s0
  have hwr : IntKind.i64.wrap ((l.length : Int) - (t.length : Int)) = (l.length : Int) - (t.length : Int) := by rw [IntKind.wrap_i64]; omega
  have HFz : Hid (FrS S w (((((((w3.setCell ⟨w.heap.size, 0, none⟩ (.int .i64 k)).setCell ⟨w.heap.size, 1, none⟩ (.string T)).setCell ⟨w.heap.size, 2, none⟩ (.int .i64 0)).setCell ⟨w.heap.size, 3, none⟩ (.float .f64 0)).setCell ⟨w.heap.size, 4, none⟩ (.bool false)).setCell ⟨w.heap.size, 5, none⟩ (.slice none 0 0)).drew)) := Lib.hid ((set6_fr (HR.out.trans HB3.out) (Nat.le_refl _) _ _ _ _ _ _).trans (FrS.drew S _))
  go_wp2_with fail
  have q0 := (six_frozen w3 w.heap.size (.int .i64 k) (.string T) (.int .i64 0) (.float .f64 0) (.bool false) (.slice none 0 0) ⟨w.heap.size, 0, none⟩).trans z0
  have q1 := (six_frozen w3 w.heap.size (.int .i64 k) (.string T) (.int .i64 0) (.float .f64 0) (.bool false) (.slice none 0 0) ⟨w.heap.size, 1, none⟩).trans z1
  have q2 := (six_frozen w3 w.heap.size (.int .i64 k) (.string T) (.int .i64 0) (.float .f64 0) (.bool false) (.slice none 0 0) ⟨w.heap.size, 2, none⟩).trans z2
  have q3 := (six_frozen w3 w.heap.size (.int .i64 k) (.string T) (.int .i64 0) (.float .f64 0) (.bool false) (.slice none 0 0) ⟨w.heap.size, 3, none⟩).trans z3
  have q4 := (six_frozen w3 w.heap.size (.int .i64 k) (.string T) (.int .i64 0) (.float .f64 0) (.bool false) (.slice none 0 0) ⟨w.heap.size, 4, none⟩).trans z4
  have q5 := (six_frozen w3 w.heap.size (.int .i64 k) (.string T) (.int .i64 0) (.float .f64 0) (.bool false) (.slice none 0 0) ⟨w.heap.size, 5, none⟩).trans z5
  have qe := (six_frozen w3 w.heap.size (.int .i64 k) (.string T) (.int .i64 0) (.float .f64 0) (.bool false) (.slice none 0 0) ⟨w.heap.size + 1, 0, none⟩).trans f0
  clear z0 z1 z2 z3 z4 z5 f0 d0 c0 c1 c2 c3 c4 c5 h1 hmf
  generalize hX : w.heap.size = X at *
  have Hl : Hid (w.heap.size ≤ X) := Lib.hid (Nat.le_of_eq hX)
  clear hX
  refine wp_region_noPanic ?_
  refine wp_region_held_drew (S := (fun W : World => (W.cell? ⟨X, 0, none⟩ = some (.int .i64 k) ∧ W.cell? ⟨X, 1, none⟩ = some (.string T) ∧ W.cell? ⟨X, 2, none⟩ = some (.int .i64 0) ∧ W.cell? ⟨X, 3, none⟩ = some (.float .f64 0) ∧ W.cell? ⟨X, 4, none⟩ = some (.bool false) ∧ W.cell? ⟨X, 5, none⟩ = some (.slice none 0 0)) ∧ W.cell? ⟨S, 0, none⟩ = some (.slice a3 t.length ac) ∧ W.cell? ⟨X + 1, 0, none⟩ = some (.int .i64 0))) (by kernel_rfl) HK.out (fun hHeld => ?_)
  generalize ((((((w3.setCell ⟨X, 0, none⟩ (.int .i64 k)).setCell ⟨X, 1, none⟩ (.string T)).setCell ⟨X, 2, none⟩ (.int .i64 0)).setCell ⟨X, 3, none⟩ (.float .f64 0)).setCell ⟨X, 4, none⟩ (.bool false)).setCell ⟨X, 5, none⟩ (.slice none 0 0)).drew = W7 at *
  obtain ⟨⟨k0, k1, k2, k3, k4, k5⟩, ks, ke⟩ := hHeld

  have hHeld := HK.out
  refine wpAnyH_take (i := 0) (v := ?v0) rfl (by kernel_rfl) (by kernel_rfl) (by kernel_rfl) (fun _ _ _ h => h) (Or.inl ⟨by rfl, ?hy0⟩) (by assumption) ?r0
  case hy0 => (intro w' hSw; (try dsimp only at hSw); go_simp; try with_reducible rfl)
  case r0 =>
  try simp only [Act.put]
  refine wpAnyH_take (i := 1) (v := ?v1) rfl (by kernel_rfl) (by kernel_rfl) (by kernel_rfl) (fun _ _ _ h => h) (Or.inl ⟨by rfl, ?hy1⟩) (by assumption) ?r1
  case hy1 => (intro w' hSw; (try dsimp only at hSw); go_simp; try with_reducible rfl)
  case r1 =>
  try simp only [Act.put]
  refine wpAnyH_take (i := 2) (v := ?v2) rfl (by kernel_rfl) (by kernel_rfl) (by kernel_rfl) (fun _ _ _ h => h) (Or.inl ⟨by rfl, ?hy2⟩) (by assumption) ?r2
  case hy2 => (intro w' hSw; (try dsimp only at hSw); go_simp; try with_reducible rfl)
  case r2 =>
  try simp only [Act.put]
  refine wpAnyH_take (i := 3) (v := ?v3) rfl (by kernel_rfl) (by kernel_rfl) (by kernel_rfl) (fun _ _ _ h => h) (Or.inl ⟨by rfl, ?hy3⟩) (by assumption) ?r3
  case hy3 => (intro w' hSw; (try dsimp only at hSw); go_simp; try with_reducible rfl)
  case r3 =>
  try simp only [Act.put]
  refine wpAnyH_take (i := 4) (v := ?v4) rfl (by kernel_rfl) (by kernel_rfl) (by kernel_rfl) (fun _ _ _ h => h) (Or.inl ⟨by rfl, ?hy4⟩) (by assumption) ?r4
  case hy4 => (intro w' hSw; (try dsimp only at hSw); go_simp; try with_reducible rfl)
  case r4 =>
  try simp only [Act.put]
  refine wpAnyH_take (i := 5) (v := ?v5) rfl (by kernel_rfl) (by kernel_rfl) (by kernel_rfl) (fun _ _ _ h => h) (Or.inl ⟨by rfl, ?hy5⟩) (by assumption) ?r5
  case hy5 => (intro w' hSw; (try dsimp only at hSw); go_simp; try with_reducible rfl)
  case r5 =>
  try simp only [Act.put]
  refine wpAnyH_take (i := 6) (v := ?v6) rfl (by kernel_rfl) (by kernel_rfl) (by kernel_rfl) (fun _ _ _ h => h) (Or.inl ⟨by rfl, ?hy6⟩) (by assumption) ?r6
  case hy6 => (intro w' hSw; (try dsimp only at hSw); go_simp; try with_reducible rfl)
  case r6 =>
  try simp only [Act.put]
  refine wpAnyH_take (i := 7) (v := ?v7) rfl (by kernel_rfl) (by kernel_rfl) (by kernel_rfl) (fun _ _ _ h => h) (Or.inl ⟨by rfl, ?hy7⟩) (by assumption) ?r7
  case hy7 => (intro w' hSw; (try dsimp only at hSw); go_simp; try with_reducible rfl)
  case r7 =>
  try simp only [Act.put]
  refine wpAnyH_ready (rs := [8]) (by kernel_rfl) (by simp) (AllReadyH.cons rfl (fun K hK => ?_) AllReadyH.nil)
  go_simp
  refine hK.out _ _ (six_same HK.out) (fun hHeld2 => ?_)
  clear hK K hHeld
  try simp only [Act.put]
  have m0 : ((((((W7.setCell ⟨X, 0, none⟩ (.int .i64 k)).setCell ⟨X, 1, none⟩ (.string T)).setCell ⟨X, 2, none⟩ (.int .i64 0)).setCell ⟨X, 3, none⟩ (.float .f64 0)).setCell ⟨X, 4, none⟩ (.bool false)).setCell ⟨X, 5, none⟩ (.slice none 0 0)).frozen? ⟨X + 1, 0, none⟩ = false := by
    simp only [World.frozen?_setCell]
    exact qe
  have HK2 := Lib.hid hHeld2
  have HG : Hid (FrS S w ((((((W7.setCell ⟨X, 0, none⟩ (.int .i64 k)).setCell ⟨X, 1, none⟩ (.string T)).setCell ⟨X, 2, none⟩ (.int .i64 0)).setCell ⟨X, 3, none⟩ (.float .f64 0)).setCell ⟨X, 4, none⟩ (.bool false)).setCell ⟨X, 5, none⟩ (.slice none 0 0))) := Lib.hid (set6_fr HFz.out Hl.out _ _ _ _ _ _)
  have m1 := HK2.out.2.2
  generalize ((((((W7.setCell ⟨X, 0, none⟩ (.int .i64 k)).setCell ⟨X, 1, none⟩ (.string T)).setCell ⟨X, 2, none⟩ (.int .i64 0)).setCell ⟨X, 3, none⟩ (.float .f64 0)).setCell ⟨X, 4, none⟩ (.bool false)).setCell ⟨X, 5, none⟩ (.slice none 0 0)) = W8 at *
  refine wpAnyH_take (i := 9) (v := ?v9) rfl (by kernel_rfl) (by kernel_rfl) (by kernel_rfl) (fun _ _ _ h => h) (Or.inl ⟨by rfl, ?hy9⟩) (by assumption) ?r9
  case hy9 => (intro w' hSw; (try dsimp only at hSw); go_simp; try with_reducible rfl)
  case r9 =>
  try simp only [Act.put]
  refine wpAnyH_ready (rs := [10]) (by kernel_rfl) (by simp) (AllReadyH.cons rfl (fun K hK => ?_) AllReadyH.nil)
  go_simp
  refine hK.out _ _ (e_same HK2.out) (fun hHeld3 => ?_)
  have HG2 := Lib.hid (fr_set1 HG.out (Nat.le_succ_of_le Hl.out) 0 (.int .i64 0))
  obtain ⟨⟨c0, c1, c2, c3, c4, c5⟩, -, d0⟩ := hHeld3
  clear hK K hHeld2 k0 k1 k2 k3 k4 k5 ks ke
  try simp only [Act.put]
  refine wpAnyH_done (by kernel_rfl) ?_ _
  refine NoPanic.normal ?_
  generalize W8.setCell ⟨X + 1, 0, none⟩ (.int .i64 0) = W9 at *
  go_wp2_with fail
  refine leaves_cons (f := 11) (args := #[.pointer (some ⟨X + 1, 0, none⟩)]) (by simp) (by simp [go_sem]) ?_
  refine (catch_idle ⟨X + 1, 0, none⟩ W9).mono ?_
  rintro e u' w'' ⟨rfl, rfl, rfl⟩
  simp [Leaves, settle, results, Tryz.results10, go_sem, c0, c1, c2, c3, c4, c5, d0]
  exact HG2.out
end Go.Proofs.YtimgkbpiengnjaaGreatDoor.Ln
