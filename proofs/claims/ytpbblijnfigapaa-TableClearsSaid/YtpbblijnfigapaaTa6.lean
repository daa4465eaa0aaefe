/- Package table: a table as it lies; both, find. Conditions: what is always so of a table; bounds. -/
import Derived.Test.YtpbblijnfigapaaTa9
namespace Go.Proofs.Ytpbblijnfigapaa.Ta
open Go.ChangeShapes Go.WideShapes Go.ChangeAt Go.RowKit
/-- The table s in block T, its lists in G1 and G2. -/
structure TAt (w : World) (T G1 G2 : Nat) (s : St) : Prop where
  a : PAt w T 0 G1 s.now s.e1 s.d1
  b : PAt w T 3 G2 s.nxt s.e2 s.d2
  m : w.cell? ⟨T, 6, none⟩ = some (.int .i64 s.mv)
  g : 0 < s.nxt.length → G1 ≠ G2
theorem TAt.below {w w' : World} {T G1 G2 : Nat} {s : St} (h : TAt w T G1 G2 s) (hb : Below w.heap.size w w') : TAt w' T G1 G2 s :=
  ⟨h.a.below hb, h.b.below hb, (hb.cell (p := ⟨T, 6, none⟩) h.a.lt).trans h.m, h.g⟩
theorem TAt.fr {w w' : World} {T G1 G2 : Nat} {s : St} {S : Nat → Prop} (h : TAt w T G1 G2 s) (hl : 0 < s.now.length) (k : Fr S w w') (h1 : ¬ S T) (h2 : ¬ S G1) (h3 : 0 < s.nxt.length → ¬ S G2) : TAt w' T G1 G2 s := by
  have hT := k.block T h.a.lt h1
  have hc : ∀ i, w'.cell? ⟨T, i, none⟩ = w.cell? ⟨T, i, none⟩ := fun i => by simp only [World.cell?, hT]
  have hf : ∀ i, w'.frozen? ⟨T, i, none⟩ = w.frozen? ⟨T, i, none⟩ := fun i => by simp only [World.frozen?, hT]
  exact ⟨h.a.keep (fun i _ => hc _) hf (fun _ => k.block G1 (h.a.ltG hl) h2), h.b.keep (fun i _ => hc _) hf (fun hn => k.block G2 (h.b.ltG hn) (h3 hn)), (hc 6).trans h.m, h.g⟩
theorem iBoth : (Try.prog.info? 58).map (·.size) = some 2 := by kernel_rfl
set_option maxHeartbeats 4000000 in
theorem both_calls (w : World) (T : Nat) :
    Calls Try.prog 27 #[.pointer (some ⟨T, 0, none⟩)] w fun e w' => e = .returned (.agg #[.pointer (some ⟨T, 0, none⟩), .pointer (some ⟨T, 3, none⟩)]) ∧ Below w.heap.size w w' := by
  go_enter Try.func27, Try.ntmps27
  go_wp2_with fail
  go_region
  all_goals (go_wp2_with fail)
  all_goals (refine bodyPost_ret (results_cell_row rfl _ _ w.heap.size 58 #[.pointer (some ⟨T, 0, none⟩), .pointer (some ⟨T, 3, none⟩)] (0, 0) _ rfl ?hg Try.underlying58 rfl iBoth) rfl ⟨rfl, ?_⟩)
  all_goals first | exact heap_alloc_new w _ | exact (bbox _).drew
@[go_sem] theorem index2_0 (w : World) (x y : Value) : (Instr.index 58 (.agg #[x, y]) (.int .i64 0)).run Try.prog w = .ok x w := by kernel_rfl
@[go_sem] theorem index2_1 (w : World) (x y : Value) : (Instr.index 58 (.agg #[x, y]) (.int .i64 1)).run Try.prog w = .ok y w := by kernel_rfl
def fptr (T : Nat) : Option (Bool × Nat) → Value
  | none => .pointer none
  | some (b, _) => .pointer (some ⟨T, if b then 3 else 0, none⟩)
def fidx : Option (Bool × Nat) → Nat
  | none => 0
  | some (_, p) => p
set_option maxHeartbeats 4000000 in
set_option maxRecDepth 100000 in
theorem tfind_calls (w : World) (T G1 G2 : Nat) (s : St) (hT : TAt w T G1 G2 s) {c : Int} (hO : Ok c s) (hc : 0 ≤ c) (k : ByteArray) (h : Nat) (hh : h < 18446744073709551616) :
    Calls Try.prog 21 #[.pointer (some ⟨T, 0, none⟩), .string k, .int .u64 (h : Nat)] w fun e w' => e = .returned (.tuple #[fptr T (fnd s k h), .int .i64 (fidx (fnd s k h) : Nat)]) ∧ Below w.heap.size w w' := by
  have H0 := Lib.hid (both_calls w T)
  have H1 := Lib.hid (fun W (hb : Below w.heap.size w W) => pfind_calls W T 0 G1 s.now s.e1 s.d1 (hT.a.below hb) k h hh (by have := hO.b1; omega) (fun _ => hO.now0))
  have H2 := Lib.hid (fun W (hb : Below w.heap.size w W) => pfind_calls W T 3 G2 s.nxt s.e2 s.d2 (hT.b.below hb) k h hh (by have := hO.b2; omega) (fun hn => hO.nxt0 hc hn))
  obtain ⟨r, hr⟩ : ∃ r, r = fnd s k h := ⟨_, rfl⟩
  rw [← hr]
  have HR : Hid (r = match findP s.now k h with | some p => some (false, p) | none => match findP s.nxt k h with | some p => some (true, p) | none => none) := Lib.hid hr
  clear hr hT hO hc
  generalize findP s.now k h = r1 at *
  generalize findP s.nxt k h = r2 at *
  go_enter Try.func21, Try.ntmps21
  go_wp2_with fail
  refine H0.out.mono ?_; rintro en w2 ⟨rfl, hb2⟩
  have HB2 := Lib.hid hb2
  have HQ1 := Lib.hid (H1.out w2 hb2)
  have HQ2 := Lib.hid (H2.out w2 hb2)
  clear hb2
  go_wp2_with fail
  refine wp_loop_rounds 3 ?_
  rw [rounds_succ]
  go_wp2_with fail
  refine HQ1.out.mono ?_; rintro en w3 ⟨rfl, rfl⟩
  cases r1 with
  | some p =>
    go_wp2_with fail
    go_ret2
    exact ⟨by rw [HR.out]; rfl, HB2.out⟩
  | none =>
    go_wp2_with fail
    rw [rounds_succ]
    go_wp2_with fail
    refine HQ2.out.mono ?_; rintro en w3 ⟨rfl, rfl⟩
    cases r2 with
    | some p =>
      go_wp2_with fail
      go_ret2
      exact ⟨by rw [HR.out]; rfl, HB2.out⟩
    | none =>
      go_wp2_with fail
      rw [rounds_succ]
      go_wp2_with fail
      go_ret2
      exact ⟨by rw [HR.out]; rfl, HB2.out⟩
end Go.Proofs.Ytpbblijnfigapaa.Ta
