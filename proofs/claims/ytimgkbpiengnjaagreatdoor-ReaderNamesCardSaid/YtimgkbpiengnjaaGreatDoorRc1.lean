/- Package reader's read: the deferred closure's three ways; read where the frame is there, where bytes are still to come, at what is no frame. Conditions: the frame's contract. -/
import Derived.Test.YtimgkbpiengnjaaGreatDoorRb6
namespace Go.Proofs.YtimgkbpiengnjaaGreatDoor.Ln
open Go.ChangeShapes Go.WideShapes Go.ChangeAt Go.RowKit

def zeroV : Val := .mk 0 ⟨#[]⟩ 0 0 false none 0 0 fun _ => .no

set_option maxRecDepth 100000 in
set_option maxHeartbeats 1000000 in
theorem catch_idle (p : Addr) (w : World) :
    CallsD Tryz.prog 11 #[.pointer (some p)] .returning w fun e u' w' => e = .returned (.tuple #[]) ∧ u' = .returning ∧ w' = w := by
  refine callsD_of_wpS Tryz.func11 rfl fun c₀ cs hu => ?_
  simp only [Tryz.ntmps11, List.size_toArray, List.length_cons, List.length_nil, Nat.reduceAdd, Nat.reduceSub, Array.replicate_succ, Array.replicate_zero, List.push_toArray, List.append_toArray, List.nil_append, List.cons_append]
  have ta1 : ∀ w, (Instr.typeAssert .nilIface 20 44 true).run Tryz.prog w = .ok (.tuple #[.agg #[], .bool false]) w := fun _ => by kernel_rfl
  have ta2 : ∀ w, (Instr.typeAssert (.iface 44 (.agg #[])) 20 44 true).run Tryz.prog w = .ok (.tuple #[.agg #[], .bool true]) w := fun _ => by kernel_rfl
  have ta3 : ∀ w, (Instr.typeAssert (.iface 45 (.agg #[])) 20 44 true).run Tryz.prog w = .ok (.tuple #[.agg #[], .bool false]) w := fun _ => by kernel_rfl
  have ta4 : ∀ w, (Instr.typeAssert (.iface 45 (.agg #[])) 20 45 true).run Tryz.prog w = .ok (.tuple #[.agg #[], .bool true]) w := fun _ => by kernel_rfl
  apply wpS_seq
  apply wpS_region
  simp [wpOpsS, go_sem, recoverD, hu, Exit.thenS]
  refine wpS_of_wp ?_
  go_wp2_with fail
  exact ⟨rfl, .returning, by cases c₀; cases hu; rfl, _, results_none rfl _ _ _, rfl, rfl, rfl⟩
set_option maxRecDepth 100000 in
set_option maxHeartbeats 1000000 in
theorem catch_short (p : Addr) (w : World) :
    CallsD Tryz.prog 11 #[.pointer (some p)] (.panicking [{ v := shortV, recovered := false }]) w fun e u' w' => e = .returned (.tuple #[]) ∧ u' = .panicking [{ v := shortV, recovered := true }] ∧ w' = w := by
  refine callsD_of_wpS Tryz.func11 rfl fun c₀ cs hu => ?_
  simp only [Tryz.ntmps11, List.size_toArray, List.length_cons, List.length_nil, Nat.reduceAdd, Nat.reduceSub, Array.replicate_succ, Array.replicate_zero, List.push_toArray, List.append_toArray, List.nil_append, List.cons_append]
  have ta1 : ∀ w, (Instr.typeAssert .nilIface 20 44 true).run Tryz.prog w = .ok (.tuple #[.agg #[], .bool false]) w := fun _ => by kernel_rfl
  have ta2 : ∀ w, (Instr.typeAssert (.iface 44 (.agg #[])) 20 44 true).run Tryz.prog w = .ok (.tuple #[.agg #[], .bool true]) w := fun _ => by kernel_rfl
  have ta3 : ∀ w, (Instr.typeAssert (.iface 45 (.agg #[])) 20 44 true).run Tryz.prog w = .ok (.tuple #[.agg #[], .bool false]) w := fun _ => by kernel_rfl
  have ta4 : ∀ w, (Instr.typeAssert (.iface 45 (.agg #[])) 20 45 true).run Tryz.prog w = .ok (.tuple #[.agg #[], .bool true]) w := fun _ => by kernel_rfl
  apply wpS_seq
  apply wpS_region
  simp [wpOpsS, go_sem, recoverD, hu, Exit.thenS]
  refine wpS_of_wp ?_
  unfold shortV
  go_wp2_with fail
  exact ⟨rfl, _, rfl, _, results_none rfl _ _ _, rfl, rfl, rfl⟩
set_option maxRecDepth 100000 in
set_option maxHeartbeats 1000000 in
theorem catch_broke (p : Addr) (x : Int) (w : World) (hc : (w.alloc (.cells #[] 45)).cell? p = some (.int .i64 x)) (hz : (w.alloc (.cells #[] 45)).frozen? p = false) :
    CallsD Tryz.prog 11 #[.pointer (some p)] (.panicking [{ v := brokeV, recovered := false }]) w fun e u' w' => e = .returned (.tuple #[]) ∧ u' = .panicking [{ v := brokeV, recovered := true }] ∧ w' = (w.alloc (.cells #[] 45)).setCell p (.int .i64 51) := by
  refine callsD_of_wpS Tryz.func11 rfl fun c₀ cs hu => ?_
  simp only [Tryz.ntmps11, List.size_toArray, List.length_cons, List.length_nil, Nat.reduceAdd, Nat.reduceSub, Array.replicate_succ, Array.replicate_zero, List.push_toArray, List.append_toArray, List.nil_append, List.cons_append]
  have ta1 : ∀ w, (Instr.typeAssert .nilIface 20 44 true).run Tryz.prog w = .ok (.tuple #[.agg #[], .bool false]) w := fun _ => by kernel_rfl
  have ta2 : ∀ w, (Instr.typeAssert (.iface 44 (.agg #[])) 20 44 true).run Tryz.prog w = .ok (.tuple #[.agg #[], .bool true]) w := fun _ => by kernel_rfl
  have ta3 : ∀ w, (Instr.typeAssert (.iface 45 (.agg #[])) 20 44 true).run Tryz.prog w = .ok (.tuple #[.agg #[], .bool false]) w := fun _ => by kernel_rfl
  have ta4 : ∀ w, (Instr.typeAssert (.iface 45 (.agg #[])) 20 45 true).run Tryz.prog w = .ok (.tuple #[.agg #[], .bool true]) w := fun _ => by kernel_rfl
  apply wpS_seq
  apply wpS_region
  simp [wpOpsS, go_sem, recoverD, hu, Exit.thenS]
  refine wpS_of_wp ?_
  unfold brokeV
  go_wp2_with fail
  exact ⟨rfl, _, rfl, _, results_none rfl _ _ _, rfl, rfl, rfl⟩
/-- read's two boxes. -/
abbrev rbox (w : World) : World := (oneBox w).alloc (.cells #[.int .i64 0] 27)
theorem rbox_cells {S : Nat} {w w5 : World} (hS : S < w.heap.size) (hf : FrS S (rbox w) w5) :
    (w5.cell? ⟨w.heap.size, 0, none⟩ = some (.int .i64 0) ∧ w5.cell? ⟨w.heap.size, 1, none⟩ = some (.string ⟨#[]⟩) ∧ w5.cell? ⟨w.heap.size, 2, none⟩ = some (.int .i64 0) ∧ w5.cell? ⟨w.heap.size, 3, none⟩ = some (.float .f64 0) ∧ w5.cell? ⟨w.heap.size, 4, none⟩ = some (.bool false) ∧ w5.cell? ⟨w.heap.size, 5, none⟩ = some (.slice none 0 0)) ∧
    w5.cell? ⟨w.heap.size + 1, 0, none⟩ = some (.int .i64 0) ∧ w5.frozen? ⟨w.heap.size + 1, 0, none⟩ = false ∧ ∀ o, w5.frozen? ⟨w.heap.size, o, none⟩ = false := by
  have hlt : w.heap.size + 1 < (rbox w).heap.size := by simp [rbox, oneBox]
  have hne : w.heap.size ≠ S := by omega
  have hne1 : w.heap.size + 1 ≠ S := by omega
  refine ⟨⟨?_, ?_, ?_, ?_, ?_, ?_⟩, ?_, ?_, fun o => ?_⟩
  all_goals first
    | (rw [hf.cell (by omega) hne]; simp [rbox, oneBox]; done)
    | (rw [hf.cell hlt hne1]; simp [rbox, oneBox]; done)
    | (rw [hf.frozen hlt hne1]; simp [rbox, oneBox]; done)
    | (rw [hf.frozen (by omega) hne]; simp [rbox, oneBox]; done)
theorem rbox_below (w : World) : Below w.heap.size w (rbox w) := ((Below.refl _ _).alloc (Nat.le_refl _) _).alloc (by simp) _
set_option maxRecDepth 100000 in
set_option maxHeartbeats 1000000 in
theorem read_short (S B : Nat) (w : World) (l : List UInt8) (r : Int) (h : Src S B w l r)
    (hF : ∀ w', FrS S w w' → Src S B w' l r → Calls Tryz.prog 12 #[.pointer (some ⟨S, 0, none⟩), .int .i64 0] w' fun e w'' => e = stop shortV ∧ FrS S w' w'') :
    Calls Tryz.prog 10 #[.pointer (some ⟨S, 0, none⟩)] w fun e w' => e = .returned (.tuple #[zeroV.agg, .int .i64 0, .int .i64 0]) ∧ FrS S w w' := by
  have hmf : ∀ (fn : Fn) (first cap : Array Value) (w : World), (Instr.makeFunc fn first cap).run Tryz.prog w = .ok (.func fn first cap) w := fun _ _ _ _ => rfl
  have HR : Hid (FrS S w (rbox w)) := Lib.hid (Fr.of_below (rbox_below w))
  have HF := Lib.hid (hF (rbox w) HR.out (h.below (rbox_below w)))
  have HS := Lib.hid h.lo
  obtain ⟨a, c, h1, -, -⟩ := (h.below (rbox_below w)).row
  clear h hF
  unfold zeroV Val.agg
  go_enter_defers Tryz.func10, Tryz.ntmps10
  go_wp2_with fail
  refine HF.out.mono ?_
  rintro en w3 ⟨rfl, hb3⟩
  refine leaves_cons (f := 11) (args := #[.pointer (some ⟨w.heap.size + 1, 0, none⟩)]) (by simp) (by simp [go_sem]) ?_
  refine (catch_short ⟨w.heap.size + 1, 0, none⟩ w3).mono ?_
  rintro e u' w'' ⟨rfl, rfl, rfl⟩
  obtain ⟨⟨c0, c1, c2, c3, c4, c5⟩, d0, -, -⟩ := rbox_cells HS.out hb3
  have HE := Lib.hid (HR.out.trans hb3)
  clear hb3
  simp [Leaves, settle, results, Tryz.results10, go_sem, c0, c1, c2, c3, c4, c5, d0]
  exact HE.out
set_option maxRecDepth 100000 in
set_option maxHeartbeats 1000000 in
theorem read_broke (S B : Nat) (w : World) (l : List UInt8) (r : Int) (h : Src S B w l r)
    (hF : ∀ w', FrS S w w' → Src S B w' l r → Calls Tryz.prog 12 #[.pointer (some ⟨S, 0, none⟩), .int .i64 0] w' fun e w'' => e = stop brokeV ∧ FrS S w' w'') :
    Calls Tryz.prog 10 #[.pointer (some ⟨S, 0, none⟩)] w fun e w' => e = .returned (.tuple #[zeroV.agg, .int .i64 0, .int .i64 51]) ∧ FrS S w w' := by
  have hmf : ∀ (fn : Fn) (first cap : Array Value) (w : World), (Instr.makeFunc fn first cap).run Tryz.prog w = .ok (.func fn first cap) w := fun _ _ _ _ => rfl
  have HR : Hid (FrS S w (rbox w)) := Lib.hid (Fr.of_below (rbox_below w))
  have HF := Lib.hid (hF (rbox w) HR.out (h.below (rbox_below w)))
  have HS := Lib.hid h.lo
  obtain ⟨a, c, h1, -, -⟩ := (h.below (rbox_below w)).row
  clear h hF
  unfold zeroV Val.agg
  go_enter_defers Tryz.func10, Tryz.ntmps10
  go_wp2_with fail
  refine HF.out.mono ?_
  rintro en w3 ⟨rfl, hb3⟩
  have hb4 : FrS S (rbox w) (w3.alloc (.cells #[] 45)) := hb3.trans (Fr.of_below (bbox _))
  obtain ⟨⟨c0, c1, c2, c3, c4, c5⟩, d0, f0, -⟩ := rbox_cells HS.out hb4
  have HE := Lib.hid (fr_set1 (HR.out.trans hb4) (Nat.le_succ _) 0 (.int .i64 51))
  clear hb3 hb4
  refine leaves_cons (f := 11) (args := #[.pointer (some ⟨w.heap.size + 1, 0, none⟩)]) (by simp) (by simp [go_sem]) ?_
  refine (catch_broke ⟨w.heap.size + 1, 0, none⟩ 0 w3 d0 f0).mono ?_
  rintro e u' w'' ⟨rfl, rfl, rfl⟩
  generalize w3.alloc (.cells #[] 45) = w4 at *
  simp [Leaves, settle, results, Tryz.results10, go_sem, c0, c1, c2, c3, c4, c5, d0]
  exact HE.out
theorem set_same {W : World} {p q : Addr} {v u : Value} (h : W.cell? p = some v) (hq : W.cell? q = some u) : (W.setCell p v).cell? q = some u := by
  by_cases e : p = q
  · subst e
    rw [h] at hq
    rw [World.cell?_setCell_same W _ _ h, hq]
  · rw [World.cell?_setCell_other _ _ _ _ e, hq]
theorem six_put {W : World} {X S n c : Nat} {a : Option Addr} {k : Int} {T : ByteArray} {v0 v1 v2 v3 v4 v5 : Value} (hS : S ≠ X) (h0 : W.cell? ⟨X, 0, none⟩ = some v0) (h1 : W.cell? ⟨X, 1, none⟩ = some v1) (h2 : W.cell? ⟨X, 2, none⟩ = some v2) (h3 : W.cell? ⟨X, 3, none⟩ = some v3) (h4 : W.cell? ⟨X, 4, none⟩ = some v4) (h5 : W.cell? ⟨X, 5, none⟩ = some v5) (hs : W.cell? ⟨S, 0, none⟩ = some (.slice a n c)) (he : W.cell? ⟨X + 1, 0, none⟩ = some (.int .i64 0)) :
    (((((((W.setCell ⟨X, 0, none⟩ (.int .i64 k)).setCell ⟨X, 1, none⟩ (.string T)).setCell ⟨X, 2, none⟩ (.int .i64 0)).setCell ⟨X, 3, none⟩ (.float .f64 0)).setCell ⟨X, 4, none⟩ (.bool false)).setCell ⟨X, 5, none⟩ (.slice none 0 0)).drew.cell? ⟨X, 0, none⟩ = some (.int .i64 k) ∧ ((((((W.setCell ⟨X, 0, none⟩ (.int .i64 k)).setCell ⟨X, 1, none⟩ (.string T)).setCell ⟨X, 2, none⟩ (.int .i64 0)).setCell ⟨X, 3, none⟩ (.float .f64 0)).setCell ⟨X, 4, none⟩ (.bool false)).setCell ⟨X, 5, none⟩ (.slice none 0 0)).drew.cell? ⟨X, 1, none⟩ = some (.string T) ∧ ((((((W.setCell ⟨X, 0, none⟩ (.int .i64 k)).setCell ⟨X, 1, none⟩ (.string T)).setCell ⟨X, 2, none⟩ (.int .i64 0)).setCell ⟨X, 3, none⟩ (.float .f64 0)).setCell ⟨X, 4, none⟩ (.bool false)).setCell ⟨X, 5, none⟩ (.slice none 0 0)).drew.cell? ⟨X, 2, none⟩ = some (.int .i64 0) ∧ ((((((W.setCell ⟨X, 0, none⟩ (.int .i64 k)).setCell ⟨X, 1, none⟩ (.string T)).setCell ⟨X, 2, none⟩ (.int .i64 0)).setCell ⟨X, 3, none⟩ (.float .f64 0)).setCell ⟨X, 4, none⟩ (.bool false)).setCell ⟨X, 5, none⟩ (.slice none 0 0)).drew.cell? ⟨X, 3, none⟩ = some (.float .f64 0) ∧ ((((((W.setCell ⟨X, 0, none⟩ (.int .i64 k)).setCell ⟨X, 1, none⟩ (.string T)).setCell ⟨X, 2, none⟩ (.int .i64 0)).setCell ⟨X, 3, none⟩ (.float .f64 0)).setCell ⟨X, 4, none⟩ (.bool false)).setCell ⟨X, 5, none⟩ (.slice none 0 0)).drew.cell? ⟨X, 4, none⟩ = some (.bool false) ∧ ((((((W.setCell ⟨X, 0, none⟩ (.int .i64 k)).setCell ⟨X, 1, none⟩ (.string T)).setCell ⟨X, 2, none⟩ (.int .i64 0)).setCell ⟨X, 3, none⟩ (.float .f64 0)).setCell ⟨X, 4, none⟩ (.bool false)).setCell ⟨X, 5, none⟩ (.slice none 0 0)).drew.cell? ⟨X, 5, none⟩ = some (.slice none 0 0)) ∧ ((((((W.setCell ⟨X, 0, none⟩ (.int .i64 k)).setCell ⟨X, 1, none⟩ (.string T)).setCell ⟨X, 2, none⟩ (.int .i64 0)).setCell ⟨X, 3, none⟩ (.float .f64 0)).setCell ⟨X, 4, none⟩ (.bool false)).setCell ⟨X, 5, none⟩ (.slice none 0 0)).drew.cell? ⟨S, 0, none⟩ = some (.slice a n c) ∧ ((((((W.setCell ⟨X, 0, none⟩ (.int .i64 k)).setCell ⟨X, 1, none⟩ (.string T)).setCell ⟨X, 2, none⟩ (.int .i64 0)).setCell ⟨X, 3, none⟩ (.float .f64 0)).setCell ⟨X, 4, none⟩ (.bool false)).setCell ⟨X, 5, none⟩ (.slice none 0 0)).drew.cell? ⟨X + 1, 0, none⟩ = some (.int .i64 0) := by
  have hb : ∀ i j : Nat, i ≠ j → (⟨X, i, none⟩ : Addr) ≠ ⟨X, j, none⟩ := fun i j h => addr_ne (.inr h)
  have ha : ∀ i : Nat, (⟨X, i, none⟩ : Addr) ≠ ⟨S, 0, none⟩ := fun i => addr_ne (.inl fun e => hS e.symm)
  have hc : ∀ i : Nat, (⟨X, i, none⟩ : Addr) ≠ ⟨X + 1, 0, none⟩ := fun i => addr_ne (.inl (by omega))
  have hd : ∀ (V : World) (q : Addr), V.drew.cell? q = V.cell? q := fun _ _ => rfl
  refine ⟨⟨?_, ?_, ?_, ?_, ?_, ?_⟩, ?_, ?_⟩ <;> rw [hd]
  · rw [World.cell?_setCell_other _ _ _ _ (hb 5 0 (by decide)), World.cell?_setCell_other _ _ _ _ (hb 4 0 (by decide)), World.cell?_setCell_other _ _ _ _ (hb 3 0 (by decide)), World.cell?_setCell_other _ _ _ _ (hb 2 0 (by decide)), World.cell?_setCell_other _ _ _ _ (hb 1 0 (by decide)), World.cell?_setCell_same W _ _ h0]
  · rw [World.cell?_setCell_other _ _ _ _ (hb 5 1 (by decide)), World.cell?_setCell_other _ _ _ _ (hb 4 1 (by decide)), World.cell?_setCell_other _ _ _ _ (hb 3 1 (by decide)), World.cell?_setCell_other _ _ _ _ (hb 2 1 (by decide))]
    exact World.cell?_setCell_same _ _ _ ((World.cell?_setCell_other _ _ _ _ (hb 0 1 (by decide))).trans h1)
  · rw [World.cell?_setCell_other _ _ _ _ (hb 5 2 (by decide)), World.cell?_setCell_other _ _ _ _ (hb 4 2 (by decide)), World.cell?_setCell_other _ _ _ _ (hb 3 2 (by decide))]
    exact World.cell?_setCell_same _ _ _ (by rw [World.cell?_setCell_other _ _ _ _ (hb 1 2 (by decide)), World.cell?_setCell_other _ _ _ _ (hb 0 2 (by decide)), h2])
  · rw [World.cell?_setCell_other _ _ _ _ (hb 5 3 (by decide)), World.cell?_setCell_other _ _ _ _ (hb 4 3 (by decide))]
    exact World.cell?_setCell_same _ _ _ (by rw [World.cell?_setCell_other _ _ _ _ (hb 2 3 (by decide)), World.cell?_setCell_other _ _ _ _ (hb 1 3 (by decide)), World.cell?_setCell_other _ _ _ _ (hb 0 3 (by decide)), h3])
  · rw [World.cell?_setCell_other _ _ _ _ (hb 5 4 (by decide))]
    exact World.cell?_setCell_same _ _ _ (by rw [World.cell?_setCell_other _ _ _ _ (hb 3 4 (by decide)), World.cell?_setCell_other _ _ _ _ (hb 2 4 (by decide)), World.cell?_setCell_other _ _ _ _ (hb 1 4 (by decide)), World.cell?_setCell_other _ _ _ _ (hb 0 4 (by decide)), h4])
  · exact World.cell?_setCell_same _ _ _ (by rw [World.cell?_setCell_other _ _ _ _ (hb 4 5 (by decide)), World.cell?_setCell_other _ _ _ _ (hb 3 5 (by decide)), World.cell?_setCell_other _ _ _ _ (hb 2 5 (by decide)), World.cell?_setCell_other _ _ _ _ (hb 1 5 (by decide)), World.cell?_setCell_other _ _ _ _ (hb 0 5 (by decide)), h5])
  · rw [World.cell?_setCell_other _ _ _ _ (ha 5), World.cell?_setCell_other _ _ _ _ (ha 4), World.cell?_setCell_other _ _ _ _ (ha 3), World.cell?_setCell_other _ _ _ _ (ha 2), World.cell?_setCell_other _ _ _ _ (ha 1), World.cell?_setCell_other _ _ _ _ (ha 0), hs]
  · rw [World.cell?_setCell_other _ _ _ _ (hc 5), World.cell?_setCell_other _ _ _ _ (hc 4), World.cell?_setCell_other _ _ _ _ (hc 3), World.cell?_setCell_other _ _ _ _ (hc 2), World.cell?_setCell_other _ _ _ _ (hc 1), World.cell?_setCell_other _ _ _ _ (hc 0), he]
theorem six_same {W : World} {X S n c : Nat} {a : Option Addr} {k : Int} {T : ByteArray} (h : (W.cell? ⟨X, 0, none⟩ = some (.int .i64 k) ∧ W.cell? ⟨X, 1, none⟩ = some (.string T) ∧ W.cell? ⟨X, 2, none⟩ = some (.int .i64 0) ∧ W.cell? ⟨X, 3, none⟩ = some (.float .f64 0) ∧ W.cell? ⟨X, 4, none⟩ = some (.bool false) ∧ W.cell? ⟨X, 5, none⟩ = some (.slice none 0 0)) ∧ W.cell? ⟨S, 0, none⟩ = some (.slice a n c) ∧ W.cell? ⟨X + 1, 0, none⟩ = some (.int .i64 0)) : (((((((W.setCell ⟨X, 0, none⟩ (.int .i64 k)).setCell ⟨X, 1, none⟩ (.string T)).setCell ⟨X, 2, none⟩ (.int .i64 0)).setCell ⟨X, 3, none⟩ (.float .f64 0)).setCell ⟨X, 4, none⟩ (.bool false)).setCell ⟨X, 5, none⟩ (.slice none 0 0)).cell? ⟨X, 0, none⟩ = some (.int .i64 k) ∧ ((((((W.setCell ⟨X, 0, none⟩ (.int .i64 k)).setCell ⟨X, 1, none⟩ (.string T)).setCell ⟨X, 2, none⟩ (.int .i64 0)).setCell ⟨X, 3, none⟩ (.float .f64 0)).setCell ⟨X, 4, none⟩ (.bool false)).setCell ⟨X, 5, none⟩ (.slice none 0 0)).cell? ⟨X, 1, none⟩ = some (.string T) ∧ ((((((W.setCell ⟨X, 0, none⟩ (.int .i64 k)).setCell ⟨X, 1, none⟩ (.string T)).setCell ⟨X, 2, none⟩ (.int .i64 0)).setCell ⟨X, 3, none⟩ (.float .f64 0)).setCell ⟨X, 4, none⟩ (.bool false)).setCell ⟨X, 5, none⟩ (.slice none 0 0)).cell? ⟨X, 2, none⟩ = some (.int .i64 0) ∧ ((((((W.setCell ⟨X, 0, none⟩ (.int .i64 k)).setCell ⟨X, 1, none⟩ (.string T)).setCell ⟨X, 2, none⟩ (.int .i64 0)).setCell ⟨X, 3, none⟩ (.float .f64 0)).setCell ⟨X, 4, none⟩ (.bool false)).setCell ⟨X, 5, none⟩ (.slice none 0 0)).cell? ⟨X, 3, none⟩ = some (.float .f64 0) ∧ ((((((W.setCell ⟨X, 0, none⟩ (.int .i64 k)).setCell ⟨X, 1, none⟩ (.string T)).setCell ⟨X, 2, none⟩ (.int .i64 0)).setCell ⟨X, 3, none⟩ (.float .f64 0)).setCell ⟨X, 4, none⟩ (.bool false)).setCell ⟨X, 5, none⟩ (.slice none 0 0)).cell? ⟨X, 4, none⟩ = some (.bool false) ∧ ((((((W.setCell ⟨X, 0, none⟩ (.int .i64 k)).setCell ⟨X, 1, none⟩ (.string T)).setCell ⟨X, 2, none⟩ (.int .i64 0)).setCell ⟨X, 3, none⟩ (.float .f64 0)).setCell ⟨X, 4, none⟩ (.bool false)).setCell ⟨X, 5, none⟩ (.slice none 0 0)).cell? ⟨X, 5, none⟩ = some (.slice none 0 0)) ∧ ((((((W.setCell ⟨X, 0, none⟩ (.int .i64 k)).setCell ⟨X, 1, none⟩ (.string T)).setCell ⟨X, 2, none⟩ (.int .i64 0)).setCell ⟨X, 3, none⟩ (.float .f64 0)).setCell ⟨X, 4, none⟩ (.bool false)).setCell ⟨X, 5, none⟩ (.slice none 0 0)).cell? ⟨S, 0, none⟩ = some (.slice a n c) ∧ ((((((W.setCell ⟨X, 0, none⟩ (.int .i64 k)).setCell ⟨X, 1, none⟩ (.string T)).setCell ⟨X, 2, none⟩ (.int .i64 0)).setCell ⟨X, 3, none⟩ (.float .f64 0)).setCell ⟨X, 4, none⟩ (.bool false)).setCell ⟨X, 5, none⟩ (.slice none 0 0)).cell? ⟨X + 1, 0, none⟩ = some (.int .i64 0) := by
  obtain ⟨⟨h0, h1, h2, h3, h4, h5⟩, hs, he⟩ := h
  have hh : ∀ {q u}, W.cell? q = some u → ((((((W.setCell ⟨X, 0, none⟩ (.int .i64 k)).setCell ⟨X, 1, none⟩ (.string T)).setCell ⟨X, 2, none⟩ (.int .i64 0)).setCell ⟨X, 3, none⟩ (.float .f64 0)).setCell ⟨X, 4, none⟩ (.bool false)).setCell ⟨X, 5, none⟩ (.slice none 0 0)).cell? q = some u := fun {q u} hq => by
    have g0 := fun {q u} (hq : W.cell? q = some u) => set_same h0 hq
    have g1 := fun {q u} (hq : (W.setCell ⟨X, 0, none⟩ (.int .i64 k)).cell? q = some u) => set_same (g0 h1) hq
    have g2 := fun {q u} (hq : ((W.setCell ⟨X, 0, none⟩ (.int .i64 k)).setCell ⟨X, 1, none⟩ (.string T)).cell? q = some u) => set_same (g1 (g0 h2)) hq
    have g3 := fun {q u} (hq : (((W.setCell ⟨X, 0, none⟩ (.int .i64 k)).setCell ⟨X, 1, none⟩ (.string T)).setCell ⟨X, 2, none⟩ (.int .i64 0)).cell? q = some u) => set_same (g2 (g1 (g0 h3))) hq
    have g4 := fun {q u} (hq : ((((W.setCell ⟨X, 0, none⟩ (.int .i64 k)).setCell ⟨X, 1, none⟩ (.string T)).setCell ⟨X, 2, none⟩ (.int .i64 0)).setCell ⟨X, 3, none⟩ (.float .f64 0)).cell? q = some u) => set_same (g3 (g2 (g1 (g0 h4)))) hq
    exact set_same (g4 (g3 (g2 (g1 (g0 h5))))) (g4 (g3 (g2 (g1 (g0 hq)))))
  exact ⟨⟨hh h0, hh h1, hh h2, hh h3, hh h4, hh h5⟩, hh hs, hh he⟩
theorem e_same {W : World} {X S n c : Nat} {a : Option Addr} {k : Int} {T : ByteArray} (h : (W.cell? ⟨X, 0, none⟩ = some (.int .i64 k) ∧ W.cell? ⟨X, 1, none⟩ = some (.string T) ∧ W.cell? ⟨X, 2, none⟩ = some (.int .i64 0) ∧ W.cell? ⟨X, 3, none⟩ = some (.float .f64 0) ∧ W.cell? ⟨X, 4, none⟩ = some (.bool false) ∧ W.cell? ⟨X, 5, none⟩ = some (.slice none 0 0)) ∧ W.cell? ⟨S, 0, none⟩ = some (.slice a n c) ∧ W.cell? ⟨X + 1, 0, none⟩ = some (.int .i64 0)) : ((W.setCell ⟨X + 1, 0, none⟩ (.int .i64 0)).cell? ⟨X, 0, none⟩ = some (.int .i64 k) ∧ (W.setCell ⟨X + 1, 0, none⟩ (.int .i64 0)).cell? ⟨X, 1, none⟩ = some (.string T) ∧ (W.setCell ⟨X + 1, 0, none⟩ (.int .i64 0)).cell? ⟨X, 2, none⟩ = some (.int .i64 0) ∧ (W.setCell ⟨X + 1, 0, none⟩ (.int .i64 0)).cell? ⟨X, 3, none⟩ = some (.float .f64 0) ∧ (W.setCell ⟨X + 1, 0, none⟩ (.int .i64 0)).cell? ⟨X, 4, none⟩ = some (.bool false) ∧ (W.setCell ⟨X + 1, 0, none⟩ (.int .i64 0)).cell? ⟨X, 5, none⟩ = some (.slice none 0 0)) ∧ (W.setCell ⟨X + 1, 0, none⟩ (.int .i64 0)).cell? ⟨S, 0, none⟩ = some (.slice a n c) ∧ (W.setCell ⟨X + 1, 0, none⟩ (.int .i64 0)).cell? ⟨X + 1, 0, none⟩ = some (.int .i64 0) := by
  obtain ⟨⟨h0, h1, h2, h3, h4, h5⟩, hs, he⟩ := h
  exact ⟨⟨set_same he h0, set_same he h1, set_same he h2, set_same he h3, set_same he h4, set_same he h5⟩, set_same he hs, set_same he he⟩
end Go.Proofs.YtimgkbpiengnjaaGreatDoor.Ln
