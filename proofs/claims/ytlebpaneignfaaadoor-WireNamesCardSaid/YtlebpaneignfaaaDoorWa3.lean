/- Package wire's appendValue and appendAll at every value that can be, wherever its parts lie. Conditions: the tables hold what start-up lays ('WCtx'). (Written by tools/gen_wa3.py.) -/
import Derived.Test.YtlebpaneignfaaaDoorWa2
import Derived.Test.YtlebpaneignfaaaDoorWe2
import Derived.Deep.RegionHeld3
namespace Go.Proofs.YtlebpaneignfaaaDoor
open Go.ChangeShapes Go.WideShapes Go.ChangeAt Go.RowKit

theorem mark_of (w : World) (k : Nat) (hk : k < 15) (m : UInt8) (hm : marksL.getD k 0 = m) (hc : WCtx w) : w.cell? ⟨0, k, none⟩ = some (.int .u8 (m.toNat : Int)) := by
  rw [← hm]; exact hc.marks k hk
theorem enters_fn {P : Program} {f : FuncId} {fn : Func} {c : Code} (hf : P.funcs[f]? = some fn) (hname : (fn.name == "runtime.NumGoroutine") = false) (hb : fn.body = some c) : ∀ (args : Array Value) (w : World), (callFunc f args).run P w = .ok (.enter f args) w := by
  intro args w
  have h1 : fn.name ≠ "runtime.NumGoroutine" := by simpa using hname
  simp [callFunc, hf, h1, hb, mark]
/-- A call of a Go function in a region that draws, by its contract; what it returns may hang on the world. -/
theorem step_call {P : Program} {ops : Array Oper} {o : Oper} {a : Act} {w : World} {K : Act → World → Prop} {Q : Exit → Act → World → Prop} {E : Prop} (hg : o.guard = none) (f : FuncId) (xs : Array Operand) (ts : Array TypeId)
    (hop : o.op = Op.call { callee := Callee.value (Operand.func f), args := xs, argTypes := ts }) (vals : Array Value) (hx : xs.map a.eval = vals) (hrun : ∀ args w, (callFunc f args).run P w = .ok (.enter f args) w) {R : Value → World → Prop}
    (h : Calls P f vals w fun e w' => ∃ v, e = .returned v ∧ R v w') (hK : ∀ v w', R v w' → K (a.put o.dst v) w') :
    if Region.wanted o (yielded ops a.tmps) = true then Oper.wp P o a w K Q else E := by
  have hw : Region.wanted o (yielded ops a.tmps) = true := by simp [Region.wanted, hg]
  rw [if_pos hw]
  unfold Oper.wp
  simp [execOp, hop, resolve, invoke, Act.eval, hrun, go_sem]
  rw [hx]
  exact h.mono fun e w' ⟨v, he, hr⟩ => by
    subst he
    exact hK v w' hr
theorem long_calls (wb w : World) (v : Value) (l : List UInt8) (m : UInt8) (t : ByteArray) (hO : Buf wb w v l) (hc : WCtx wb) (ht : t.size ≤ 1000000000) (hl : l.length + t.size + 30 ≤ 100000000000) :
    Calls Tryd.prog 11 #[v, .int .u8 m.toNat, .string t] w (Added wb (l ++ longOf m t.data.toList)) := by
  have h := appendText_calls wb w v l m t hO hc ht (by omega)
  have e : t.data.toList.length = t.size := Array.length_toList
  unfold longOf lineOf
  rw [e, ← List.append_assoc]
  exact h
def AllSaid (wb : World) (old : Bool) (a : Option Addr) (n c : Nat) (K : Nat → Val) : Prop := ∀ (w : World) (v : Value) (l : List UInt8), Buf wb w v l → l.length + (catTo (fun i => encV old (K i)) n).length ≤ 99999999000 →
  Calls Tryd.prog 17 #[v, .slice a n c, .bool old] w (Added wb (l ++ catTo (fun i => encV old (K i)) n))
/-- real.Text, whichever bits. -/
theorem textOf_calls (r : Nat) (hr : r < 18446744073709551616) (w : World) (hc : TCtx w) : Calls Tryd.prog 14 #[.float .f64 r] w fun e w' => e = .returned (.string ⟨(textOf r).toArray⟩) ∧ Below w.heap.size w w' := by
  unfold textOf
  by_cases h : 9218868437227405312 < r % 9223372036854775808
  · rw [if_pos h]
    exact (realText_special r hr [110, 97, 110] w (.inl ⟨by unfold bitsN; rw [if_pos h], rfl⟩)).mono fun _ _ ⟨x, y⟩ => ⟨x, y ▸ Below.refl _ _⟩
  · rw [if_neg h]
    exact realText_all r hr (by omega) w hc

set_option maxHeartbeats 4000000 in
set_option maxRecDepth 100000 in
theorem appendValue_1 (wb w : World) (v : Value) (l : List UInt8) (old : Bool) (b o : Nat) (t : ByteArray) (z : Int) (r : Nat) (f : Bool) (a : Option Addr) (c n : Nat) (K : Nat → Val) (hO : Buf wb w v l) (hc : WCtx wb)
    (hb : b < wb.heap.size) (ha : At wb b o (.mk 1 t z r f a c n K)) (hl : l.length + t.size + 30 ≤ 100000000000) :
    Calls Tryd.prog 8 #[v, .pointer (some ⟨b, o, none⟩), .bool old] w (Added wb (l ++ lineOf 43 t.data.toList)) := by
  have hcw := hc.below hO.bel
  obtain ⟨h0, h1, h2, h3, h4, h5⟩ := ha.below hO.bel hb
  have Hcall := Lib.hid fun w2 (h2 : Below w.heap.size w w2) => appendLine_calls wb w2 v l 43 t (hO.below h2) (by omega)
  have hm := mark_of w 1 (by omega) 43 rfl hcw
  clear hO hc ha hcw
  go_enter Tryd.func8, Tryd.ntmps8
  go_wp2_with fail
  obtain ⟨F, F1, F2, F3, -⟩ := over w
  have f0 : ∀ x, (F x).cell? ⟨b, o, none⟩ = some (.int .i64 1) := fun x => cell_below (F1 x) h0
  have f1 : ∀ x, (F x).cell? ⟨b, o + 1, none⟩ = some (.string t) := fun x => cell_below (F1 x) h1
  have fm : ∀ x, (F x).cell? ⟨0, 1, none⟩ = some (.int .u8 43) := fun x => cell_below (F1 x) hm
  have HF1 := Lib.hid F1
  clear F1 F3
  refine wp_region_tail F 11 (by kernel_rfl) (by kernel_rfl) F2 ?_
  simp only [List.take_succ_cons, List.take_zero, List.drop_succ_cons, List.drop_zero]
  repeat (go_big_quiet_step (fail))
  refine wpQuiet_nil ?_
  intro x1
  have hb1 := Lib.hid (HF1.out x1)
  clear f0 f1 fm F2 HF1
  generalize F x1 = w2 at *
  go_wp2_with fail
  refine (Hcall.out _ hb1.out).mono ?_; rintro en w3 ⟨v3, rfl, hO3⟩
  have HO3 := Lib.hid hO3
  clear hO3
  go_wp2_with fail
  go_ret
  exact ⟨v3, rfl, HO3.out⟩
set_option maxHeartbeats 4000000 in
set_option maxRecDepth 100000 in
theorem appendValue_2 (wb w : World) (v : Value) (l : List UInt8) (old : Bool) (b o : Nat) (t : ByteArray) (z : Int) (r : Nat) (f : Bool) (a : Option Addr) (c n : Nat) (K : Nat → Val) (hO : Buf wb w v l) (hc : WCtx wb)
    (hb : b < wb.heap.size) (ha : At wb b o (.mk 2 t z r f a c n K)) (hl : l.length + t.size + 30 ≤ 100000000000) :
    Calls Tryd.prog 8 #[v, .pointer (some ⟨b, o, none⟩), .bool old] w (Added wb (l ++ lineOf 45 t.data.toList)) := by
  have hcw := hc.below hO.bel
  obtain ⟨h0, h1, h2, h3, h4, h5⟩ := ha.below hO.bel hb
  have Hcall := Lib.hid fun w2 (h2 : Below w.heap.size w w2) => appendLine_calls wb w2 v l 45 t (hO.below h2) (by omega)
  have hm := mark_of w 2 (by omega) 45 rfl hcw
  clear hO hc ha hcw
  go_enter Tryd.func8, Tryd.ntmps8
  go_wp2_with fail
  obtain ⟨F, F1, F2, F3, -⟩ := over w
  have f0 : ∀ x, (F x).cell? ⟨b, o, none⟩ = some (.int .i64 2) := fun x => cell_below (F1 x) h0
  have f1 : ∀ x, (F x).cell? ⟨b, o + 1, none⟩ = some (.string t) := fun x => cell_below (F1 x) h1
  have fm : ∀ x, (F x).cell? ⟨0, 2, none⟩ = some (.int .u8 45) := fun x => cell_below (F1 x) hm
  have HF1 := Lib.hid F1
  clear F1 F3
  refine wp_region_tail F 11 (by kernel_rfl) (by kernel_rfl) F2 ?_
  simp only [List.take_succ_cons, List.take_zero, List.drop_succ_cons, List.drop_zero]
  repeat (go_big_quiet_step (fail))
  refine wpQuiet_nil ?_
  intro x1
  have hb1 := Lib.hid (HF1.out x1)
  clear f0 f1 fm F2 HF1
  generalize F x1 = w2 at *
  go_wp2_with fail
  refine (Hcall.out _ hb1.out).mono ?_; rintro en w3 ⟨v3, rfl, hO3⟩
  have HO3 := Lib.hid hO3
  clear hO3
  go_wp2_with fail
  go_ret
  exact ⟨v3, rfl, HO3.out⟩
set_option maxHeartbeats 4000000 in
set_option maxRecDepth 100000 in
theorem appendValue_9 (wb w : World) (v : Value) (l : List UInt8) (old : Bool) (b o : Nat) (t : ByteArray) (z : Int) (r : Nat) (f : Bool) (a : Option Addr) (c n : Nat) (K : Nat → Val) (hO : Buf wb w v l) (hc : WCtx wb)
    (hb : b < wb.heap.size) (ha : At wb b o (.mk 9 t z r f a c n K)) (hl : l.length + t.size + 30 ≤ 100000000000) :
    Calls Tryd.prog 8 #[v, .pointer (some ⟨b, o, none⟩), .bool old] w (Added wb (l ++ lineOf 40 t.data.toList)) := by
  have hcw := hc.below hO.bel
  obtain ⟨h0, h1, h2, h3, h4, h5⟩ := ha.below hO.bel hb
  have Hcall := Lib.hid fun w2 (h2 : Below w.heap.size w w2) => appendLine_calls wb w2 v l 40 t (hO.below h2) (by omega)
  have hm := mark_of w 9 (by omega) 40 rfl hcw
  clear hO hc ha hcw
  go_enter Tryd.func8, Tryd.ntmps8
  go_wp2_with fail
  obtain ⟨F, F1, F2, F3, -⟩ := over w
  have f0 : ∀ x, (F x).cell? ⟨b, o, none⟩ = some (.int .i64 9) := fun x => cell_below (F1 x) h0
  have f1 : ∀ x, (F x).cell? ⟨b, o + 1, none⟩ = some (.string t) := fun x => cell_below (F1 x) h1
  have fm : ∀ x, (F x).cell? ⟨0, 9, none⟩ = some (.int .u8 40) := fun x => cell_below (F1 x) hm
  have HF1 := Lib.hid F1
  clear F1 F3
  refine wp_region_tail F 11 (by kernel_rfl) (by kernel_rfl) F2 ?_
  simp only [List.take_succ_cons, List.take_zero, List.drop_succ_cons, List.drop_zero]
  repeat (go_big_quiet_step (fail))
  refine wpQuiet_nil ?_
  intro x1
  have hb1 := Lib.hid (HF1.out x1)
  clear f0 f1 fm F2 HF1
  generalize F x1 = w2 at *
  go_wp2_with fail
  refine (Hcall.out _ hb1.out).mono ?_; rintro en w3 ⟨v3, rfl, hO3⟩
  have HO3 := Lib.hid hO3
  clear hO3
  go_wp2_with fail
  go_ret
  exact ⟨v3, rfl, HO3.out⟩
set_option maxHeartbeats 4000000 in
set_option maxRecDepth 100000 in
theorem appendValue_4 (wb w : World) (v : Value) (l : List UInt8) (old : Bool) (b o : Nat) (t : ByteArray) (z : Int) (r : Nat) (f : Bool) (a : Option Addr) (c n : Nat) (K : Nat → Val) (hO : Buf wb w v l) (hc : WCtx wb)
    (hb : b < wb.heap.size) (ha : At wb b o (.mk 4 t z r f a c n K)) (ht : t.size ≤ 1000000000) (hl : l.length + t.size + 30 ≤ 100000000000) :
    Calls Tryd.prog 8 #[v, .pointer (some ⟨b, o, none⟩), .bool old] w (Added wb (l ++ longOf 36 t.data.toList)) := by
  have hcw := hc.below hO.bel
  obtain ⟨h0, h1, h2, h3, h4, h5⟩ := ha.below hO.bel hb
  have Hcall := Lib.hid fun w2 (h2 : Below w.heap.size w w2) => long_calls wb w2 v l 36 t (hO.below h2) hc ht (by omega)
  have hm := mark_of w 4 (by omega) 36 rfl hcw
  clear hO hc ha hcw
  go_enter Tryd.func8, Tryd.ntmps8
  go_wp2_with fail
  obtain ⟨F, F1, F2, F3, -⟩ := over w
  have f0 : ∀ x, (F x).cell? ⟨b, o, none⟩ = some (.int .i64 4) := fun x => cell_below (F1 x) h0
  have f1 : ∀ x, (F x).cell? ⟨b, o + 1, none⟩ = some (.string t) := fun x => cell_below (F1 x) h1
  have fm : ∀ x, (F x).cell? ⟨0, 4, none⟩ = some (.int .u8 36) := fun x => cell_below (F1 x) hm
  have HF1 := Lib.hid F1
  clear F1 F3
  refine wp_region_tail F 11 (by kernel_rfl) (by kernel_rfl) F2 ?_
  simp only [List.take_succ_cons, List.take_zero, List.drop_succ_cons, List.drop_zero]
  repeat (go_big_quiet_step (fail))
  refine wpQuiet_nil ?_
  intro x1
  have hb1 := Lib.hid (HF1.out x1)
  clear f0 f1 fm F2 HF1
  generalize F x1 = w2 at *
  go_wp2_with fail
  refine (Hcall.out _ hb1.out).mono ?_; rintro en w3 ⟨v3, rfl, hO3⟩
  have HO3 := Lib.hid hO3
  clear hO3
  go_wp2_with fail
  go_ret
  exact ⟨v3, rfl, HO3.out⟩
set_option maxHeartbeats 4000000 in
set_option maxRecDepth 100000 in
theorem appendValue_10 (wb w : World) (v : Value) (l : List UInt8) (old : Bool) (b o : Nat) (t : ByteArray) (z : Int) (r : Nat) (f : Bool) (a : Option Addr) (c n : Nat) (K : Nat → Val) (hO : Buf wb w v l) (hc : WCtx wb)
    (hb : b < wb.heap.size) (ha : At wb b o (.mk 10 t z r f a c n K)) (ht : t.size ≤ 1000000000) (hl : l.length + t.size + 30 ≤ 100000000000) :
    Calls Tryd.prog 8 #[v, .pointer (some ⟨b, o, none⟩), .bool old] w (Added wb (l ++ longOf 33 t.data.toList)) := by
  have hcw := hc.below hO.bel
  obtain ⟨h0, h1, h2, h3, h4, h5⟩ := ha.below hO.bel hb
  have Hcall := Lib.hid fun w2 (h2 : Below w.heap.size w w2) => long_calls wb w2 v l 33 t (hO.below h2) hc ht (by omega)
  have hm := mark_of w 10 (by omega) 33 rfl hcw
  clear hO hc ha hcw
  go_enter Tryd.func8, Tryd.ntmps8
  go_wp2_with fail
  obtain ⟨F, F1, F2, F3, -⟩ := over w
  have f0 : ∀ x, (F x).cell? ⟨b, o, none⟩ = some (.int .i64 10) := fun x => cell_below (F1 x) h0
  have f1 : ∀ x, (F x).cell? ⟨b, o + 1, none⟩ = some (.string t) := fun x => cell_below (F1 x) h1
  have fm : ∀ x, (F x).cell? ⟨0, 10, none⟩ = some (.int .u8 33) := fun x => cell_below (F1 x) hm
  have HF1 := Lib.hid F1
  clear F1 F3
  refine wp_region_tail F 11 (by kernel_rfl) (by kernel_rfl) F2 ?_
  simp only [List.take_succ_cons, List.take_zero, List.drop_succ_cons, List.drop_zero]
  repeat (go_big_quiet_step (fail))
  refine wpQuiet_nil ?_
  intro x1
  have hb1 := Lib.hid (HF1.out x1)
  clear f0 f1 fm F2 HF1
  generalize F x1 = w2 at *
  go_wp2_with fail
  refine (Hcall.out _ hb1.out).mono ?_; rintro en w3 ⟨v3, rfl, hO3⟩
  have HO3 := Lib.hid hO3
  clear hO3
  go_wp2_with fail
  go_ret
  exact ⟨v3, rfl, HO3.out⟩
set_option maxHeartbeats 4000000 in
set_option maxRecDepth 100000 in
theorem appendValue_11 (wb w : World) (v : Value) (l : List UInt8) (old : Bool) (b o : Nat) (t : ByteArray) (z : Int) (r : Nat) (f : Bool) (a : Option Addr) (c n : Nat) (K : Nat → Val) (hO : Buf wb w v l) (hc : WCtx wb)
    (hb : b < wb.heap.size) (ha : At wb b o (.mk 11 t z r f a c n K)) (ht : t.size ≤ 1000000000) (hl : l.length + t.size + 30 ≤ 100000000000) :
    Calls Tryd.prog 8 #[v, .pointer (some ⟨b, o, none⟩), .bool old] w (Added wb (l ++ longOf 61 t.data.toList)) := by
  have hcw := hc.below hO.bel
  obtain ⟨h0, h1, h2, h3, h4, h5⟩ := ha.below hO.bel hb
  have Hcall := Lib.hid fun w2 (h2 : Below w.heap.size w w2) => long_calls wb w2 v l 61 t (hO.below h2) hc ht (by omega)
  have hm := mark_of w 11 (by omega) 61 rfl hcw
  clear hO hc ha hcw
  go_enter Tryd.func8, Tryd.ntmps8
  go_wp2_with fail
  obtain ⟨F, F1, F2, F3, -⟩ := over w
  have f0 : ∀ x, (F x).cell? ⟨b, o, none⟩ = some (.int .i64 11) := fun x => cell_below (F1 x) h0
  have f1 : ∀ x, (F x).cell? ⟨b, o + 1, none⟩ = some (.string t) := fun x => cell_below (F1 x) h1
  have fm : ∀ x, (F x).cell? ⟨0, 11, none⟩ = some (.int .u8 61) := fun x => cell_below (F1 x) hm
  have HF1 := Lib.hid F1
  clear F1 F3
  refine wp_region_tail F 11 (by kernel_rfl) (by kernel_rfl) F2 ?_
  simp only [List.take_succ_cons, List.take_zero, List.drop_succ_cons, List.drop_zero]
  repeat (go_big_quiet_step (fail))
  refine wpQuiet_nil ?_
  intro x1
  have hb1 := Lib.hid (HF1.out x1)
  clear f0 f1 fm F2 HF1
  generalize F x1 = w2 at *
  go_wp2_with fail
  refine (Hcall.out _ hb1.out).mono ?_; rintro en w3 ⟨v3, rfl, hO3⟩
  have HO3 := Lib.hid hO3
  clear hO3
  go_wp2_with fail
  go_ret
  exact ⟨v3, rfl, HO3.out⟩
set_option maxHeartbeats 4000000 in
set_option maxRecDepth 100000 in
theorem appendValue_3 (wb w : World) (v : Value) (l : List UInt8) (old : Bool) (b o : Nat) (t : ByteArray) (z : Int) (r : Nat) (f : Bool) (a : Option Addr) (c n : Nat) (K : Nat → Val) (hO : Buf wb w v l) (hc : WCtx wb)
    (hb : b < wb.heap.size) (ha : At wb b o (.mk 3 t z r f a c n K)) (hz0 : -9223372036854775808 ≤ z) (hz1 : z ≤ 9223372036854775807) (hl : l.length + 30 ≤ 100000000000) :
    Calls Tryd.prog 8 #[v, .pointer (some ⟨b, o, none⟩), .bool old] w (Added wb (l ++ lineOf 58 (Lib.itoa z))) := by
  have hcw := hc.below hO.bel
  obtain ⟨h0, h1, h2, h3, h4, h5⟩ := ha.below hO.bel hb
  have hi := Lib.itoa_length_le z hz0 hz1
  have H1 := Lib.hid fun w2 (h2 : Below w.heap.size w w2) => whText_calls z hz0 hz1 w2 (hcw.toTCtx.below h2)
  have Hcall := Lib.hid fun w2 (h2 : Below w.heap.size w w2) => line_nil wb w2 v l 58 (Lib.itoa z) (hO.below h2) (by omega)
  have hm := mark_of w 3 (by omega) 58 rfl hcw
  clear hO hc ha hcw hi
  go_enter Tryd.func8, Tryd.ntmps8
  go_wp2_with fail
  obtain ⟨F, F1, F2, F3, -⟩ := over w
  have f0 : ∀ x, (F x).cell? ⟨b, o, none⟩ = some (.int .i64 3) := fun x => cell_below (F1 x) h0
  have f1 : ∀ x, (F x).cell? ⟨b, o + 2, none⟩ = some (.int .i64 z) := fun x => cell_below (F1 x) h2
  have fm : ∀ x, (F x).cell? ⟨0, 3, none⟩ = some (.int .u8 58) := fun x => cell_below (F1 x) hm
  have HF1 := Lib.hid F1
  have HF3 := Lib.hid F3
  clear F1 F3
  refine wp_region_tail F 12 (by kernel_rfl) (by kernel_rfl) F2 ?_
  simp only [List.take_succ_cons, List.take_zero, List.drop_succ_cons, List.drop_zero]
  repeat (go_big_quiet_step (first | (go_at_call 13; exact quiet_over HF3.out (H1.out _ (HF1.out _)))))
  refine wpQuiet_nil ?_
  intro x1
  have hb1 := Lib.hid (HF1.out x1)
  clear f0 f1 fm F2 HF1 HF3
  generalize F x1 = w2 at *
  go_wp2_with fail
  refine (Hcall.out _ hb1.out).mono ?_; rintro en w3 ⟨v3, rfl, hO3⟩
  have HO3 := Lib.hid hO3
  clear hO3
  go_wp2_with fail
  go_ret
  exact ⟨v3, rfl, HO3.out⟩
set_option maxHeartbeats 4000000 in
set_option maxRecDepth 100000 in
theorem appendValue_7 (wb w : World) (v : Value) (l : List UInt8) (old : Bool) (b o : Nat) (t : ByteArray) (z : Int) (r : Nat) (f : Bool) (a : Option Addr) (c n : Nat) (K : Nat → Val) (hO : Buf wb w v l) (hc : WCtx wb)
    (hb : b < wb.heap.size) (ha : At wb b o (.mk 7 t z r f a c n K)) (hr : r < 18446744073709551616) (hl : l.length + 530 ≤ 100000000000) :
    Calls Tryd.prog 8 #[v, .pointer (some ⟨b, o, none⟩), .bool old] w (Added wb (l ++ lineOf 44 (textOf r))) := by
  have hcw := hc.below hO.bel
  obtain ⟨h0, h1, h2, h3, h4, h5⟩ := ha.below hO.bel hb
  have hi := textOf_le r
  have H1 := Lib.hid fun w2 (h2 : Below w.heap.size w w2) => textOf_calls r hr w2 (hcw.toTCtx.below h2)
  have Hcall := Lib.hid fun w2 (h2 : Below w.heap.size w w2) => line_nil wb w2 v l 44 (textOf r) (hO.below h2) (by omega)
  have hm := mark_of w 7 (by omega) 44 rfl hcw
  clear hO hc ha hcw hi
  go_enter Tryd.func8, Tryd.ntmps8
  go_wp2_with fail
  obtain ⟨F, F1, F2, F3, -⟩ := over w
  have f0 : ∀ x, (F x).cell? ⟨b, o, none⟩ = some (.int .i64 7) := fun x => cell_below (F1 x) h0
  have f1 : ∀ x, (F x).cell? ⟨b, o + 3, none⟩ = some (.float .f64 r) := fun x => cell_below (F1 x) h3
  have fm : ∀ x, (F x).cell? ⟨0, 7, none⟩ = some (.int .u8 44) := fun x => cell_below (F1 x) hm
  have HF1 := Lib.hid F1
  have HF3 := Lib.hid F3
  clear F1 F3
  refine wp_region_tail F 12 (by kernel_rfl) (by kernel_rfl) F2 ?_
  simp only [List.take_succ_cons, List.take_zero, List.drop_succ_cons, List.drop_zero]
  repeat (go_big_quiet_step (first | (go_at_call 14; exact quiet_over HF3.out (H1.out _ (HF1.out _)))))
  refine wpQuiet_nil ?_
  intro x1
  have hb1 := Lib.hid (HF1.out x1)
  clear f0 f1 fm F2 HF1 HF3
  generalize F x1 = w2 at *
  go_wp2_with fail
  refine (Hcall.out _ hb1.out).mono ?_; rintro en w3 ⟨v3, rfl, hO3⟩
  have HO3 := Lib.hid hO3
  clear hO3
  go_wp2_with fail
  go_ret
  exact ⟨v3, rfl, HO3.out⟩
set_option maxHeartbeats 4000000 in
set_option maxRecDepth 100000 in
theorem appendValue_8t (wb w : World) (v : Value) (l : List UInt8) (old : Bool) (b o : Nat) (t : ByteArray) (z : Int) (r : Nat) (a : Option Addr) (c n : Nat) (K : Nat → Val) (hO : Buf wb w v l) (hc : WCtx wb)
    (hb : b < wb.heap.size) (ha : At wb b o (.mk 8 t z r true a c n K)) (hl : l.length + 30 ≤ 100000000000) :
    Calls Tryd.prog 8 #[v, .pointer (some ⟨b, o, none⟩), .bool old] w (Added wb (l ++ lineOf 35 [116])) := by
  have hcw := hc.below hO.bel
  obtain ⟨h0, h1, h2, h3, h4, h5⟩ := ha.below hO.bel hb
  have H1 : Hid (∀ w, Calls _ _ _ w _) := Lib.hid (flagText_calls true)
  have Hcall := Lib.hid fun w2 (h2 : Below w.heap.size w w2) => line_nil wb w2 v l 35 [116] (hO.below h2) (by show l.length + 1 + 3 ≤ 100000000000; omega)
  have hm := mark_of w 8 (by omega) 35 rfl hcw
  clear hO hc ha hcw
  go_enter Tryd.func8, Tryd.ntmps8
  go_wp2_with fail
  obtain ⟨F, F1, F2, F3, -⟩ := over w
  have f0 : ∀ x, (F x).cell? ⟨b, o, none⟩ = some (.int .i64 8) := fun x => cell_below (F1 x) h0
  have f1 : ∀ x, (F x).cell? ⟨b, o + 4, none⟩ = some (.bool true) := fun x => cell_below (F1 x) h4
  have fm : ∀ x, (F x).cell? ⟨0, 8, none⟩ = some (.int .u8 35) := fun x => cell_below (F1 x) hm
  have HF1 := Lib.hid F1
  clear F1 F3
  refine wp_region_tail F 12 (by kernel_rfl) (by kernel_rfl) F2 ?_
  simp only [List.take_succ_cons, List.take_zero, List.drop_succ_cons, List.drop_zero]
  repeat (go_big_quiet_step (first | (go_at_call 15; exact quiet_same (H1.out _))))
  refine wpQuiet_nil ?_
  intro x1
  have hb1 := Lib.hid (HF1.out x1)
  clear f0 f1 fm F2 HF1
  generalize F x1 = w2 at *
  go_wp2_with fail
  refine (Hcall.out _ hb1.out).mono ?_; rintro en w3 ⟨v3, rfl, hO3⟩
  have HO3 := Lib.hid hO3
  clear hO3
  go_wp2_with fail
  go_ret
  exact ⟨v3, rfl, HO3.out⟩
set_option maxHeartbeats 4000000 in
set_option maxRecDepth 100000 in
theorem appendValue_8f (wb w : World) (v : Value) (l : List UInt8) (old : Bool) (b o : Nat) (t : ByteArray) (z : Int) (r : Nat) (a : Option Addr) (c n : Nat) (K : Nat → Val) (hO : Buf wb w v l) (hc : WCtx wb)
    (hb : b < wb.heap.size) (ha : At wb b o (.mk 8 t z r false a c n K)) (hl : l.length + 30 ≤ 100000000000) :
    Calls Tryd.prog 8 #[v, .pointer (some ⟨b, o, none⟩), .bool old] w (Added wb (l ++ lineOf 35 [102])) := by
  have hcw := hc.below hO.bel
  obtain ⟨h0, h1, h2, h3, h4, h5⟩ := ha.below hO.bel hb
  have H1 : Hid (∀ w, Calls _ _ _ w _) := Lib.hid (flagText_calls false)
  have Hcall := Lib.hid fun w2 (h2 : Below w.heap.size w w2) => line_nil wb w2 v l 35 [102] (hO.below h2) (by show l.length + 1 + 3 ≤ 100000000000; omega)
  have hm := mark_of w 8 (by omega) 35 rfl hcw
  clear hO hc ha hcw
  go_enter Tryd.func8, Tryd.ntmps8
  go_wp2_with fail
  obtain ⟨F, F1, F2, F3, -⟩ := over w
  have f0 : ∀ x, (F x).cell? ⟨b, o, none⟩ = some (.int .i64 8) := fun x => cell_below (F1 x) h0
  have f1 : ∀ x, (F x).cell? ⟨b, o + 4, none⟩ = some (.bool false) := fun x => cell_below (F1 x) h4
  have fm : ∀ x, (F x).cell? ⟨0, 8, none⟩ = some (.int .u8 35) := fun x => cell_below (F1 x) hm
  have HF1 := Lib.hid F1
  clear F1 F3
  refine wp_region_tail F 12 (by kernel_rfl) (by kernel_rfl) F2 ?_
  simp only [List.take_succ_cons, List.take_zero, List.drop_succ_cons, List.drop_zero]
  repeat (go_big_quiet_step (first | (go_at_call 15; exact quiet_same (H1.out _))))
  refine wpQuiet_nil ?_
  intro x1
  have hb1 := Lib.hid (HF1.out x1)
  clear f0 f1 fm F2 HF1
  generalize F x1 = w2 at *
  go_wp2_with fail
  refine (Hcall.out _ hb1.out).mono ?_; rintro en w3 ⟨v3, rfl, hO3⟩
  have HO3 := Lib.hid hO3
  clear hO3
  go_wp2_with fail
  go_ret
  exact ⟨v3, rfl, HO3.out⟩
theorem appendValue_8 (wb w : World) (v : Value) (l : List UInt8) (old : Bool) (b o : Nat) (t : ByteArray) (z : Int) (r : Nat) (f : Bool) (a : Option Addr) (c n : Nat) (K : Nat → Val) (hO : Buf wb w v l) (hc : WCtx wb)
    (hb : b < wb.heap.size) (ha : At wb b o (.mk 8 t z r f a c n K)) (hl : l.length + 30 ≤ 100000000000) :
    Calls Tryd.prog 8 #[v, .pointer (some ⟨b, o, none⟩), .bool old] w (Added wb (l ++ lineOf 35 (if f then [116] else [102]))) := by
  cases f with
  | true => exact appendValue_8t wb w v l old b o t z r a c n K hO hc hb ha hl
  | false => exact appendValue_8f wb w v l old b o t z r a c n K hO hc hb ha hl
set_option maxHeartbeats 4000000 in
set_option maxRecDepth 100000 in
theorem appendValue_6t (wb w : World) (v : Value) (l : List UInt8) (b o : Nat) (t : ByteArray) (z : Int) (r : Nat) (f : Bool) (a : Option Addr) (c n : Nat) (K : Nat → Val) (hO : Buf wb w v l) (hc : WCtx wb)
    (hb : b < wb.heap.size) (ha : At wb b o (.mk 6 t z r f a c n K)) (hl : l.length + 30 ≤ 100000000000) :
    Calls Tryd.prog 8 #[v, .pointer (some ⟨b, o, none⟩), .bool true] w (Added wb (l ++ [36, 45, 49, 13, 10])) := by
  obtain ⟨h0, -, -, -, -, -⟩ := ha.below hO.bel hb
  have hcall : Calls Tryd.prog 16 #[v, .bool true] w (Added wb (l ++ [36, 45, 49, 13, 10])) := appendNull_calls wb w v l true hO hc (by omega)
  have Hcall := Lib.hid hcall
  clear hO hc ha hcall
  go_enter Tryd.func8, Tryd.ntmps8
  go_wp2_with fail
  refine Hcall.out.mono ?_; rintro en w3 ⟨v3, rfl, hO3⟩
  have HO3 := Lib.hid hO3
  clear hO3
  go_wp2_with fail
  go_ret
  refine ⟨v3, rfl, ?_⟩
  have h := HO3.out
  exact h
set_option maxHeartbeats 4000000 in
set_option maxRecDepth 100000 in
theorem appendValue_6f (wb w : World) (v : Value) (l : List UInt8) (b o : Nat) (t : ByteArray) (z : Int) (r : Nat) (f : Bool) (a : Option Addr) (c n : Nat) (K : Nat → Val) (hO : Buf wb w v l) (hc : WCtx wb)
    (hb : b < wb.heap.size) (ha : At wb b o (.mk 6 t z r f a c n K)) (hl : l.length + 30 ≤ 100000000000) :
    Calls Tryd.prog 8 #[v, .pointer (some ⟨b, o, none⟩), .bool false] w (Added wb (l ++ [95, 13, 10])) := by
  obtain ⟨h0, -, -, -, -, -⟩ := ha.below hO.bel hb
  have hcall : Calls Tryd.prog 16 #[v, .bool false] w (Added wb (l ++ [95, 13, 10])) := appendNull_calls wb w v l false hO hc (by omega)
  have Hcall := Lib.hid hcall
  clear hO hc ha hcall
  go_enter Tryd.func8, Tryd.ntmps8
  go_wp2_with fail
  refine Hcall.out.mono ?_; rintro en w3 ⟨v3, rfl, hO3⟩
  have HO3 := Lib.hid hO3
  clear hO3
  go_wp2_with fail
  go_ret
  refine ⟨v3, rfl, ?_⟩
  have h := HO3.out
  exact h
theorem appendValue_6 (wb w : World) (v : Value) (l : List UInt8) (old : Bool) (b o : Nat) (t : ByteArray) (z : Int) (r : Nat) (f : Bool) (a : Option Addr) (c n : Nat) (K : Nat → Val) (hO : Buf wb w v l) (hc : WCtx wb)
    (hb : b < wb.heap.size) (ha : At wb b o (.mk 6 t z r f a c n K)) (hl : l.length + 30 ≤ 100000000000) :
    Calls Tryd.prog 8 #[v, .pointer (some ⟨b, o, none⟩), .bool old] w (Added wb (l ++ (if old then [36, 45, 49, 13, 10] else [95, 13, 10]))) := by
  cases old with
  | true => exact appendValue_6t wb w v l b o t z r f a c n K hO hc hb ha hl
  | false => exact appendValue_6f wb w v l b o t z r f a c n K hO hc hb ha hl
set_option maxHeartbeats 4000000 in
set_option maxRecDepth 100000 in
theorem appendValue_12 (wb w : World) (v : Value) (l : List UInt8) (old : Bool) (b o : Nat) (t : ByteArray) (z : Int) (r : Nat) (f : Bool) (a : Option Addr) (c n : Nat) (K : Nat → Val) (hO : Buf wb w v l) (hc : WCtx wb)
    (hb : b < wb.heap.size) (ha : At wb b o (.mk 12 t z r f a c n K)) (hall : AllSaid wb old a n c K) (hnn : n ≤ 4000000000000) (hl : l.length + (lineOf 37 (Lib.itoa ((n / 2 : Nat) : Int))).length + (catTo (fun i => encV old (K i)) n).length ≤ 99999999000) :
    Calls Tryd.prog 8 #[v, .pointer (some ⟨b, o, none⟩), .bool old] w (Added wb (l ++ (lineOf 37 (Lib.itoa ((n / 2 : Nat) : Int)) ++ catTo (fun i => encV old (K i)) n))) := by
  obtain ⟨h0, -, -, -, -, h5⟩ := ha.below hO.bel hb
  have hl0 := hl
  have hm := mark_of w 12 (by omega) 37 rfl (hc.below hO.bel)
  have HS : Hid (∀ w', Below wb.heap.size wb w' → (fun w' => w'.cell? ⟨b, o, none⟩ = some (.int .i64 12) ∧ w'.cell? ⟨b, o + 5, none⟩ = some (.slice a n c) ∧ w'.cell? ⟨0, 12, none⟩ = some (.int .u8 37)) w') := Lib.hid fun w' h => ⟨(ha.below h hb).1, (ha.below h hb).2.2.2.2.2, mark_of w' 12 (by omega) 37 rfl (hc.below h)⟩
  have hi := itoa_nat_le (n / 2) (by omega)
  rw [line_len] at hl0
  have Hcount := Lib.hid fun w2 (h2 : Below w.heap.size w w2) => appendCount_calls wb w2 v l 37 (n / 2) (hO.below h2) hc (by omega) (by omega)
  have Hall := Lib.hid hall
  have e2 : IntKind.i64.wrap ((n : Int) / 2) = (n : Int) / 2 := IntWalk.i64_in _ (by omega)
  have hlen : l.length + (37 :: (Lib.itoa ((n / 2) : Nat) ++ [13, 10])).length + (catTo (fun i => encV old (K i)) n).length ≤ 99999999000 := hl
  have Hlen := Lib.hid hlen
  have hbw := Lib.hid hO.bel
  have E1 : Hid (∀ args w, (callFunc 10 args).run Tryd.prog w = .ok (.enter 10 args) w) := Lib.hid (enters_fn Tryd.func10 (by kernel_rfl) rfl)
  have E2 : Hid (∀ args w, (callFunc 17 args).run Tryd.prog w = .ok (.enter 17 args) w) := Lib.hid (enters_fn Tryd.func17 (by kernel_rfl) rfl)
  clear hO hc ha hall hi hlen hl hl0
  go_enter Tryd.func8, Tryd.ntmps8
  go_wp2_with fail
  go_region_held3 (fun w' => w'.cell? ⟨b, o, none⟩ = some (.int .i64 12) ∧ w'.cell? ⟨b, o + 5, none⟩ = some (.slice a n c) ∧ w'.cell? ⟨0, 12, none⟩ = some (.int .u8 37))
    (first | exact HS.out _ hbw.out.drew | exact HS.out _ HO1.out.bel | exact HS.out _ HO2.out.bel)
    (first
      | (refine step_call rfl 10 _ _ rfl #[v, .int .u8 37, .int .i64 ((n / 2 : Nat) : Int)] ?hx E1.out (Hcount.out _ (Below.refl _ _).drew) ?_; (case hx => simp [Act.eval]; done); intro v1 w1 hO1; have HO1 := Lib.hid hO1; clear hO1)
      | (refine step_call rfl 17 _ _ rfl #[v1, .slice a n c, .bool old] ?hx E2.out (Hall.out _ _ _ HO1.out ?hl) ?_; (case hx => simp [Act.eval]; done); (case hl => rw [List.length_append]; exact Hlen.out); intro v2 w2 hO2; have HO2 := Lib.hid hO2; clear hO2))
  go_wp2_with fail
  go_ret
  exact ⟨v2, rfl, by have := HO2.out; rw [List.append_assoc] at this; exact this⟩
set_option maxHeartbeats 4000000 in
set_option maxRecDepth 100000 in
theorem appendValue_5 (wb w : World) (v : Value) (l : List UInt8) (old : Bool) (b o : Nat) (t : ByteArray) (z : Int) (r : Nat) (f : Bool) (a : Option Addr) (c n : Nat) (K : Nat → Val) (hO : Buf wb w v l) (hc : WCtx wb)
    (hb : b < wb.heap.size) (ha : At wb b o (.mk 5 t z r f a c n K)) (hall : AllSaid wb old a n c K) (hnn : n ≤ 4000000000000) (hl : l.length + (lineOf 42 (Lib.itoa (n : Nat))).length + (catTo (fun i => encV old (K i)) n).length ≤ 99999999000) :
    Calls Tryd.prog 8 #[v, .pointer (some ⟨b, o, none⟩), .bool old] w (Added wb (l ++ (lineOf 42 (Lib.itoa (n : Nat)) ++ catTo (fun i => encV old (K i)) n))) := by
  obtain ⟨h0, -, -, -, -, h5⟩ := ha.below hO.bel hb
  have hl0 := hl
  have hm := mark_of w 5 (by omega) 42 rfl (hc.below hO.bel)
  have HS : Hid (∀ w', Below wb.heap.size wb w' → (fun w' => w'.cell? ⟨b, o, none⟩ = some (.int .i64 5) ∧ w'.cell? ⟨b, o + 5, none⟩ = some (.slice a n c) ∧ w'.cell? ⟨0, 5, none⟩ = some (.int .u8 42)) w') := Lib.hid fun w' h => ⟨(ha.below h hb).1, (ha.below h hb).2.2.2.2.2, mark_of w' 5 (by omega) 42 rfl (hc.below h)⟩
  have hi := itoa_nat_le n (by omega)
  rw [line_len] at hl0
  have Hcount := Lib.hid fun w2 (h2 : Below w.heap.size w w2) => appendCount_calls wb w2 v l 42 n (hO.below h2) hc (by omega) (by omega)
  have Hall := Lib.hid hall
  have hlen : l.length + (42 :: (Lib.itoa (n : Nat) ++ [13, 10])).length + (catTo (fun i => encV old (K i)) n).length ≤ 99999999000 := hl
  have Hlen := Lib.hid hlen
  have hbw := Lib.hid hO.bel
  have E1 : Hid (∀ args w, (callFunc 10 args).run Tryd.prog w = .ok (.enter 10 args) w) := Lib.hid (enters_fn Tryd.func10 (by kernel_rfl) rfl)
  have E2 : Hid (∀ args w, (callFunc 17 args).run Tryd.prog w = .ok (.enter 17 args) w) := Lib.hid (enters_fn Tryd.func17 (by kernel_rfl) rfl)
  clear hO hc ha hall hi hlen hl hl0
  go_enter Tryd.func8, Tryd.ntmps8
  go_wp2_with fail
  go_region_held3 (fun w' => w'.cell? ⟨b, o, none⟩ = some (.int .i64 5) ∧ w'.cell? ⟨b, o + 5, none⟩ = some (.slice a n c) ∧ w'.cell? ⟨0, 5, none⟩ = some (.int .u8 42))
    (first | exact HS.out _ hbw.out.drew | exact HS.out _ HO1.out.bel | exact HS.out _ HO2.out.bel)
    (first
      | (refine step_call rfl 10 _ _ rfl #[v, .int .u8 42, .int .i64 (n : Int)] ?hx E1.out (Hcount.out _ (Below.refl _ _).drew) ?_; (case hx => simp [Act.eval]; done); intro v1 w1 hO1; have HO1 := Lib.hid hO1; clear hO1)
      | (refine step_call rfl 17 _ _ rfl #[v1, .slice a n c, .bool old] ?hx E2.out (Hall.out _ _ _ HO1.out ?hl) ?_; (case hx => simp [Act.eval]; done); (case hl => rw [List.length_append]; exact Hlen.out); intro v2 w2 hO2; have HO2 := Lib.hid hO2; clear hO2))
  go_wp2_with fail
  go_ret
  exact ⟨v2, rfl, by have := HO2.out; rw [List.append_assoc] at this; exact this⟩
set_option maxHeartbeats 4000000 in
set_option maxRecDepth 100000 in
theorem appendValue_13 (wb w : World) (v : Value) (l : List UInt8) (old : Bool) (b o : Nat) (t : ByteArray) (z : Int) (r : Nat) (f : Bool) (a : Option Addr) (c n : Nat) (K : Nat → Val) (hO : Buf wb w v l) (hc : WCtx wb)
    (hb : b < wb.heap.size) (ha : At wb b o (.mk 13 t z r f a c n K)) (hall : AllSaid wb old a n c K) (hnn : n ≤ 4000000000000) (hl : l.length + (lineOf 126 (Lib.itoa (n : Nat))).length + (catTo (fun i => encV old (K i)) n).length ≤ 99999999000) :
    Calls Tryd.prog 8 #[v, .pointer (some ⟨b, o, none⟩), .bool old] w (Added wb (l ++ (lineOf 126 (Lib.itoa (n : Nat)) ++ catTo (fun i => encV old (K i)) n))) := by
  obtain ⟨h0, -, -, -, -, h5⟩ := ha.below hO.bel hb
  have hl0 := hl
  have hm := mark_of w 13 (by omega) 126 rfl (hc.below hO.bel)
  have HS : Hid (∀ w', Below wb.heap.size wb w' → (fun w' => w'.cell? ⟨b, o, none⟩ = some (.int .i64 13) ∧ w'.cell? ⟨b, o + 5, none⟩ = some (.slice a n c) ∧ w'.cell? ⟨0, 13, none⟩ = some (.int .u8 126)) w') := Lib.hid fun w' h => ⟨(ha.below h hb).1, (ha.below h hb).2.2.2.2.2, mark_of w' 13 (by omega) 126 rfl (hc.below h)⟩
  have hi := itoa_nat_le n (by omega)
  rw [line_len] at hl0
  have Hcount := Lib.hid fun w2 (h2 : Below w.heap.size w w2) => appendCount_calls wb w2 v l 126 n (hO.below h2) hc (by omega) (by omega)
  have Hall := Lib.hid hall
  have hlen : l.length + (126 :: (Lib.itoa (n : Nat) ++ [13, 10])).length + (catTo (fun i => encV old (K i)) n).length ≤ 99999999000 := hl
  have Hlen := Lib.hid hlen
  have hbw := Lib.hid hO.bel
  have E1 : Hid (∀ args w, (callFunc 10 args).run Tryd.prog w = .ok (.enter 10 args) w) := Lib.hid (enters_fn Tryd.func10 (by kernel_rfl) rfl)
  have E2 : Hid (∀ args w, (callFunc 17 args).run Tryd.prog w = .ok (.enter 17 args) w) := Lib.hid (enters_fn Tryd.func17 (by kernel_rfl) rfl)
  clear hO hc ha hall hi hlen hl hl0
  go_enter Tryd.func8, Tryd.ntmps8
  go_wp2_with fail
  go_region_held3 (fun w' => w'.cell? ⟨b, o, none⟩ = some (.int .i64 13) ∧ w'.cell? ⟨b, o + 5, none⟩ = some (.slice a n c) ∧ w'.cell? ⟨0, 13, none⟩ = some (.int .u8 126))
    (first | exact HS.out _ hbw.out.drew | exact HS.out _ HO1.out.bel | exact HS.out _ HO2.out.bel)
    (first
      | (refine step_call rfl 10 _ _ rfl #[v, .int .u8 126, .int .i64 (n : Int)] ?hx E1.out (Hcount.out _ (Below.refl _ _).drew) ?_; (case hx => simp [Act.eval]; done); intro v1 w1 hO1; have HO1 := Lib.hid hO1; clear hO1)
      | (refine step_call rfl 17 _ _ rfl #[v1, .slice a n c, .bool old] ?hx E2.out (Hall.out _ _ _ HO1.out ?hl) ?_; (case hx => simp [Act.eval]; done); (case hl => rw [List.length_append]; exact Hlen.out); intro v2 w2 hO2; have HO2 := Lib.hid hO2; clear hO2))
  go_wp2_with fail
  go_ret
  exact ⟨v2, rfl, by have := HO2.out; rw [List.append_assoc] at this; exact this⟩
set_option maxHeartbeats 4000000 in
set_option maxRecDepth 100000 in
theorem appendValue_14 (wb w : World) (v : Value) (l : List UInt8) (old : Bool) (b o : Nat) (t : ByteArray) (z : Int) (r : Nat) (f : Bool) (a : Option Addr) (c n : Nat) (K : Nat → Val) (hO : Buf wb w v l) (hc : WCtx wb)
    (hb : b < wb.heap.size) (ha : At wb b o (.mk 14 t z r f a c n K)) (hall : AllSaid wb old a n c K) (hnn : n ≤ 4000000000000) (hl : l.length + (lineOf 62 (Lib.itoa (n : Nat))).length + (catTo (fun i => encV old (K i)) n).length ≤ 99999999000) :
    Calls Tryd.prog 8 #[v, .pointer (some ⟨b, o, none⟩), .bool old] w (Added wb (l ++ (lineOf 62 (Lib.itoa (n : Nat)) ++ catTo (fun i => encV old (K i)) n))) := by
  obtain ⟨h0, -, -, -, -, h5⟩ := ha.below hO.bel hb
  have hl0 := hl
  have hm := mark_of w 14 (by omega) 62 rfl (hc.below hO.bel)
  have HS : Hid (∀ w', Below wb.heap.size wb w' → (fun w' => w'.cell? ⟨b, o, none⟩ = some (.int .i64 14) ∧ w'.cell? ⟨b, o + 5, none⟩ = some (.slice a n c) ∧ w'.cell? ⟨0, 14, none⟩ = some (.int .u8 62)) w') := Lib.hid fun w' h => ⟨(ha.below h hb).1, (ha.below h hb).2.2.2.2.2, mark_of w' 14 (by omega) 62 rfl (hc.below h)⟩
  have hi := itoa_nat_le n (by omega)
  rw [line_len] at hl0
  have Hcount := Lib.hid fun w2 (h2 : Below w.heap.size w w2) => appendCount_calls wb w2 v l 62 n (hO.below h2) hc (by omega) (by omega)
  have Hall := Lib.hid hall
  have hlen : l.length + (62 :: (Lib.itoa (n : Nat) ++ [13, 10])).length + (catTo (fun i => encV old (K i)) n).length ≤ 99999999000 := hl
  have Hlen := Lib.hid hlen
  have hbw := Lib.hid hO.bel
  have E1 : Hid (∀ args w, (callFunc 10 args).run Tryd.prog w = .ok (.enter 10 args) w) := Lib.hid (enters_fn Tryd.func10 (by kernel_rfl) rfl)
  have E2 : Hid (∀ args w, (callFunc 17 args).run Tryd.prog w = .ok (.enter 17 args) w) := Lib.hid (enters_fn Tryd.func17 (by kernel_rfl) rfl)
  clear hO hc ha hall hi hlen hl hl0
  go_enter Tryd.func8, Tryd.ntmps8
  go_wp2_with fail
  go_region_held3 (fun w' => w'.cell? ⟨b, o, none⟩ = some (.int .i64 14) ∧ w'.cell? ⟨b, o + 5, none⟩ = some (.slice a n c) ∧ w'.cell? ⟨0, 14, none⟩ = some (.int .u8 62))
    (first | exact HS.out _ hbw.out.drew | exact HS.out _ HO1.out.bel | exact HS.out _ HO2.out.bel)
    (first
      | (refine step_call rfl 10 _ _ rfl #[v, .int .u8 62, .int .i64 (n : Int)] ?hx E1.out (Hcount.out _ (Below.refl _ _).drew) ?_; (case hx => simp [Act.eval]; done); intro v1 w1 hO1; have HO1 := Lib.hid hO1; clear hO1)
      | (refine step_call rfl 17 _ _ rfl #[v1, .slice a n c, .bool old] ?hx E2.out (Hall.out _ _ _ HO1.out ?hl) ?_; (case hx => simp [Act.eval]; done); (case hl => rw [List.length_append]; exact Hlen.out); intro v2 w2 hO2; have HO2 := Lib.hid hO2; clear hO2))
  go_wp2_with fail
  go_ret
  exact ⟨v2, rfl, by have := HO2.out; rw [List.append_assoc] at this; exact this⟩

set_option maxHeartbeats 4000000 in
set_option maxRecDepth 100000 in
theorem appendAll_calls (wb : World) (old : Bool) (a : Option Addr) (n c : Nat) (K : Nat → Val) (hnc : n ≤ c) (hcm : c ≤ 9223372036854775807) (hnm : n * 72 ≤ 281474976710656) (hadr : 0 < n → ∃ b o, a = some ⟨b, o, none⟩)
    (hk : ∀ i, i < n → ∀ b o, a = some ⟨b, o, none⟩ → ∀ (w : World) (v : Value) (l : List UInt8), Buf wb w v l → l.length + (encV old (K i)).length ≤ 99999999000 →
      Calls Tryd.prog 8 #[v, .pointer (some ⟨b, o + i * 6, none⟩), .bool old] w (Added wb (l ++ encV old (K i)))) : AllSaid wb old a n c K := by
  intro w v l hO hl
  have hcat : ∀ j, j < n → l.length + (catTo (fun i => encV old (K i)) j).length + (encV old (K j)).length ≤ 99999999000 := by
    intro j hj
    have hup : ∀ m, j < m → (catTo (fun i => encV old (K i)) j).length + (encV old (K j)).length ≤ (catTo (fun i => encV old (K i)) m).length := by
      intro m
      induction m with
      | zero => intro h; omega
      | succ m ihm =>
        intro h
        rw [catTo_succ, List.length_append]
        by_cases e : j = m
        · subst e; omega
        · have := ihm (by omega); omega
    have := hup n hj
    omega
  have Hcat := Lib.hid hcat
  have Hk := Lib.hid hk
  have Hadr := Lib.hid hadr
  have HO := Lib.hid hO
  clear hcat hk hadr hO hl
  go_enter Tryd.func17, Tryd.ntmps17
  go_wp2_with fail
  go_loopw [0, 7, 10] (fun v _ i wr => ∃ j : Nat, j ≤ n ∧ i = .int .i64 j ∧ Buf wb wr v (l ++ catTo (fun i => encV old (K i)) j)) (fun _ _ i _ => n - (intOf i).toNat)
  case atStart => exact ⟨0, by omega, rfl, by rw [show catTo (fun i => encV old (K i)) 0 = [] from rfl, List.append_nil]; exact HO.out⟩
  case round =>
    obtain ⟨j, hj, rfl, hB⟩ := hrel
    have HB := Lib.hid hB
    clear hB
    by_cases hlt : j < n
    · obtain ⟨b2, o2, rfl⟩ := Hadr.out (by omega)
      have hjn : j < c := by omega
      have hcall := fun v => Hk.out j hlt b2 o2 rfl wr v (l ++ catTo (fun i => encV old (K i)) j)
      have Hcall := Lib.hid hcall
      clear hcall
      go_wp2_with fail
      refine (Hcall.out _ HB.out ?hlen).mono ?_
      case hlen => have := Hcat.out j hlt; rw [List.length_append]; omega
      rintro en w3 ⟨v3, rfl, hO3⟩
      have HO3 := Lib.hid hO3
      clear hO3
      go_wp2_with fail
      go_roundw
      case rel => exact ⟨j + 1, by omega, by go_num, by rw [catTo_succ, ← List.append_assoc]; exact HO3.out⟩
      case measure => simp [intOf]; omega
    · obtain rfl : j = n := by omega
      go_wp2_with fail
      go_ret
      exact ⟨_, rfl, HB.out⟩

/-- A value that can be, and that lies in the world wb. -/
theorem appendValue_calls (wb : World) (old : Bool) (hc : WCtx wb) : ∀ (x : Val) (S : Nat → Prop) (b o : Nat), (∀ b, S b → b < wb.heap.size) → Lies S wb x → okV x → b < wb.heap.size → At wb b o x →
    ∀ (w : World) (v : Value) (l : List UInt8), Buf wb w v l → l.length + (encV old x).length ≤ 99999999000 → Calls Tryd.prog 8 #[v, .pointer (some ⟨b, o, none⟩), .bool old] w (Added wb (l ++ encV old x)) := by
  intro x
  induction x with
  | no => exact fun _ _ _ _ hl => hl.elim
  | mk k t z r f a c n K ih =>
    intro S b o hS hl hok hb ha w v l hO hlen
    obtain ⟨⟨-, -, -, hz0, hz1, hr, hnc, hcm, hnm⟩, hadr, hkids⟩ := hl
    obtain ⟨hh, ⟨-, -, -, hn⟩, hoks⟩ := hok
    obtain ⟨-, -, -, p4, -⟩ := head_parts hh
    have hk := text_kind p4
    have ht := text_len p4
    rw [Array.length_toList] at ht
    replace ht : t.size ≤ 4096 := ht
    have hl1 := hO
    have hall : AllSaid wb old a n c K := appendAll_calls wb old a n c K hnc hcm hnm (fun h => (hadr h).elim fun b h => h.elim fun o h => ⟨b, o, h.1⟩)
      fun i hi b2 o2 e w v l hO hl => ih i S b2 (o2 + i * 6) hS (hkids i hi).2 (hoks i hi) (hS _ ((hadr (by omega)).elim fun b h => h.elim fun o h => by
        have e2 := h.1.symm.trans e
        injection e2 with e2
        injection e2 with e2 _
        exact e2 ▸ h.2)) ((hkids i hi).1 b2 o2 e) w v l hO hl
    have hts : t.data.toList.length = t.size := Array.length_toList
    have hcases : k = 1 ∨ k = 2 ∨ k = 3 ∨ k = 4 ∨ k = 5 ∨ k = 6 ∨ k = 7 ∨ k = 8 ∨ k = 9 ∨ k = 10 ∨ k = 11 ∨ k = 12 ∨ k = 13 ∨ k = 14 := by omega
    rcases hcases with rfl | rfl | rfl | rfl | rfl | rfl | rfl | rfl | rfl | rfl | rfl | rfl | rfl | rfl
    · rw [enc_1] at hlen ⊢; rw [line_len, hts] at hlen; exact appendValue_1 wb w v l old b o t z r f a c n K hO hc hb ha (by omega)
    · rw [enc_2] at hlen ⊢; rw [line_len, hts] at hlen; exact appendValue_2 wb w v l old b o t z r f a c n K hO hc hb ha (by omega)
    · exact appendValue_3 wb w v l old b o t z r f a c n K hO hc hb ha hz0 hz1 (by omega)
    · rw [enc_4] at hlen ⊢; unfold longOf at hlen; rw [List.length_append, List.length_append, hts] at hlen; exact appendValue_4 wb w v l old b o t z r f a c n K hO hc hb ha (by omega) (by omega)
    · rw [enc_5] at hlen ⊢; rw [List.length_append] at hlen; exact appendValue_5 wb w v l old b o t z r f a c n K hO hc hb ha hall hn (by rw [Nat.add_assoc]; exact hlen)
    · exact appendValue_6 wb w v l old b o t z r f a c n K hO hc hb ha (by omega)
    · exact appendValue_7 wb w v l old b o t z r f a c n K hO hc hb ha hr (by omega)
    · exact appendValue_8 wb w v l old b o t z r f a c n K hO hc hb ha (by omega)
    · rw [enc_9] at hlen ⊢; rw [line_len, hts] at hlen; exact appendValue_9 wb w v l old b o t z r f a c n K hO hc hb ha (by omega)
    · rw [enc_10] at hlen ⊢; unfold longOf at hlen; rw [List.length_append, List.length_append, hts] at hlen; exact appendValue_10 wb w v l old b o t z r f a c n K hO hc hb ha (by omega) (by omega)
    · rw [enc_11] at hlen ⊢; unfold longOf at hlen; rw [List.length_append, List.length_append, hts] at hlen; exact appendValue_11 wb w v l old b o t z r f a c n K hO hc hb ha (by omega) (by omega)
    · rw [enc_12] at hlen ⊢; rw [List.length_append] at hlen; exact appendValue_12 wb w v l old b o t z r f a c n K hO hc hb ha hall hn (by rw [Nat.add_assoc]; exact hlen)
    · rw [enc_13] at hlen ⊢; rw [List.length_append] at hlen; exact appendValue_13 wb w v l old b o t z r f a c n K hO hc hb ha hall hn (by rw [Nat.add_assoc]; exact hlen)
    · rw [enc_14] at hlen ⊢; rw [List.length_append] at hlen; exact appendValue_14 wb w v l old b o t z r f a c n K hO hc hb ha hall hn (by rw [Nat.add_assoc]; exact hlen)
end Go.Proofs.YtlebpaneignfaaaDoor
