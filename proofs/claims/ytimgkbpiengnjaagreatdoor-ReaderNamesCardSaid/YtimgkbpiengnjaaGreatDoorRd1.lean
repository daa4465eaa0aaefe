/- Package reader's Parse, New, Left, Next. Conditions: what start-up lays ('PCtx'); the variable MaxLen holds some int; the frame's contract. -/
import Derived.Test.YtimgkbpiengnjaaGreatDoorRc2
namespace Go.Proofs.YtimgkbpiengnjaaGreatDoor.Ln
open Go.ChangeShapes Go.WideShapes Go.ChangeAt Go.RowKit

/-- What comes of Parse: a value's cells, how many bytes, the error. -/
abbrev ansV (k : Int) (T : ByteArray) : Value := .agg #[.int .i64 k, .string T, .int .i64 0, .float .f64 0, .bool false, .slice none 0 0]
def FrameIs (l : List UInt8) (e0 : Ending) : Prop := ∀ (S B : Nat) (w : World), Src S B w l 999 → Ctx0 B w → Calls Tryz.prog 12 #[.pointer (some ⟨S, 0, none⟩), .int .i64 0] w fun e w' => e = e0 ∧ FrS S w w'
def FrameGives (l t : List UInt8) (k : Int) (T : ByteArray) : Prop := ∀ (S B : Nat) (w : World), Src S B w l 999 → Ctx0 B w → Calls Tryz.prog 12 #[.pointer (some ⟨S, 0, none⟩), .int .i64 0] w fun e w' => e = .returned (ansV k T) ∧ FrS S w w' ∧ Src S B w' t 999
/-- Parse's two boxes: its result's, and the source. -/
abbrev pbox (w : World) (v : Value) : World := (oneBox w).alloc (.cells #[v, .int .i64 999] 38)
theorem pbox_below (w : World) (v : Value) : Below w.heap.size w (pbox w v) := ((Below.refl _ _).alloc (Nat.le_refl _) _).alloc (by simp) _
theorem src_new {w : World} {a : Option Addr} {c : Nat} {l : List UInt8} (hB : InB w a c l) (hA : AddrB w.heap.size a) : Src (w.heap.size + 1) w.heap.size (pbox w (.slice a l.length c)) l 999 :=
  ⟨Nat.le_succ _, ⟨a, c, by simp [pbox, oneBox], hB.below (pbox_below w _), hA⟩, by simp [pbox, oneBox], by simp [pbox, oneBox], by simp [pbox, oneBox]⟩
theorem pbox_cells {w w5 : World} {v : Value} (hf : FrS (w.heap.size + 1) (pbox w v) w5) :
    (w5.cell? ⟨w.heap.size, 0, none⟩ = some (.int .i64 0) ∧ w5.cell? ⟨w.heap.size, 1, none⟩ = some (.string ⟨#[]⟩) ∧ w5.cell? ⟨w.heap.size, 2, none⟩ = some (.int .i64 0) ∧ w5.cell? ⟨w.heap.size, 3, none⟩ = some (.float .f64 0) ∧ w5.cell? ⟨w.heap.size, 4, none⟩ = some (.bool false) ∧ w5.cell? ⟨w.heap.size, 5, none⟩ = some (.slice none 0 0)) ∧
    ∀ o, w5.frozen? ⟨w.heap.size, o, none⟩ = false := by
  have hlt : w.heap.size < (pbox w v).heap.size := by simp [pbox, oneBox]; omega
  have hne : w.heap.size ≠ w.heap.size + 1 := by omega
  refine ⟨⟨?_, ?_, ?_, ?_, ?_, ?_⟩, fun o => ?_⟩
  all_goals first
    | (rw [hf.cell hlt hne]; simp [pbox, oneBox]; done)
    | (rw [hf.frozen hlt hne]; simp [pbox, oneBox]; done)
set_option maxRecDepth 100000 in
set_option maxHeartbeats 400000 in
theorem parse_of (w : World) (a : Option Addr) (c : Nat) (l : List UInt8) (k : Int) (T : ByteArray) (u e : Int) (hR : Calls Tryz.prog 10 #[.pointer (some ⟨w.heap.size + 1, 0, none⟩)] (pbox w (.slice a l.length c)) fun en w' => en = .returned (.tuple #[ansV k T, .int .i64 u, .int .i64 e]) ∧ FrS (w.heap.size + 1) (pbox w (.slice a l.length c)) w') :
    Calls Tryz.prog 5 #[.slice a l.length c] w fun en w' => en = .returned (.tuple #[ansV k T, .int .i64 u, .int .i64 e]) ∧ Below w.heap.size w w' := by
  have HR := Lib.hid hR
  have HB := Lib.hid (pbox_below w (.slice a l.length c))
  clear hR
  go_enter Tryz.func5, Tryz.ntmps5
  go_wp2_with fail
  refine HR.out.mono ?_
  rintro en w3 ⟨rfl, hb3⟩
  obtain ⟨⟨c0, c1, c2, c3, c4, c5⟩, fz⟩ := pbox_cells hb3
  have z0 := fz 0
  have z1 := fz 1
  have z2 := fz 2
  have z3 := fz 3
  have z4 := fz 4
  have z5 := fz 5
  have HB3 : Hid (Below w.heap.size w w3) := Lib.hid (HB.out.trans (FrS.bel hb3 HB.out.size (Nat.le_succ _)))
  have HP : Hid (Below w.heap.size w ((((((w3.setCell ⟨w.heap.size, 0, none⟩ (.int .i64 k)).setCell ⟨w.heap.size, 1, none⟩ (.string T)).setCell ⟨w.heap.size, 2, none⟩ (.int .i64 0)).setCell ⟨w.heap.size, 3, none⟩ (.float .f64 0)).setCell ⟨w.heap.size, 4, none⟩ (.bool false)).setCell ⟨w.heap.size, 5, none⟩ (.slice none 0 0))) :=
    Lib.hid (FrS.bel (set6_fr (S := w.heap.size) (Fr.of_below HB3.out) (Nat.le_refl _) _ _ _ _ _ _) (Nat.le_refl _) (Nat.le_refl _))
  clear hb3 fz
  go_wp2_with fail
  exact bodyPost_ret (v := .tuple #[ansV k T, .int .i64 u, .int .i64 e]) (by simp [results, Tryz.results5, go_sem, c0, c1, c2, c3, c4, c5]) rfl ⟨rfl, HP.out⟩
theorem parse_short (w : World) (a : Option Addr) (c : Nat) (l : List UInt8) (hB : InB w a c l) (hA : AddrB w.heap.size a) (hC : PCtx w) (hM : MaxOk w) (hF : FrameIs l (stop shortV)) :
    Calls Tryz.prog 5 #[.slice a l.length c] w fun en w' => en = .returned (.tuple #[ansV 0 ⟨#[]⟩, .int .i64 0, .int .i64 0]) ∧ Below w.heap.size w w' := by
  have hS := src_new hB hA
  have hx := (Ctx0.of hC hM).step (pbox_below w (.slice a l.length c))
  exact parse_of w a c l 0 ⟨#[]⟩ 0 0 (read_short (w.heap.size + 1) w.heap.size _ l 999 hS fun w' hf hs => hF _ _ w' hs (hx.step (FrS.bel hf hS.leB hS.ge)))
theorem parse_broke (w : World) (a : Option Addr) (c : Nat) (l : List UInt8) (hB : InB w a c l) (hA : AddrB w.heap.size a) (hC : PCtx w) (hM : MaxOk w) (hF : FrameIs l (stop brokeV)) :
    Calls Tryz.prog 5 #[.slice a l.length c] w fun en w' => en = .returned (.tuple #[ansV 0 ⟨#[]⟩, .int .i64 0, .int .i64 51]) ∧ Below w.heap.size w w' := by
  have hS := src_new hB hA
  have hx := (Ctx0.of hC hM).step (pbox_below w (.slice a l.length c))
  exact parse_of w a c l 0 ⟨#[]⟩ 0 51 (read_broke (w.heap.size + 1) w.heap.size _ l 999 hS fun w' hf hs => hF _ _ w' hs (hx.step (FrS.bel hf hS.leB hS.ge)))
theorem parse_ok (w : World) (a : Option Addr) (c : Nat) (l t : List UInt8) (k : Int) (T : ByteArray) (hlt : t.length ≤ l.length) (hll : l.length ≤ 1000000) (hB : InB w a c l) (hA : AddrB w.heap.size a) (hC : PCtx w) (hM : MaxOk w) (hF : FrameGives l t k T) :
    Calls Tryz.prog 5 #[.slice a l.length c] w fun en w' => en = .returned (.tuple #[ansV k T, .int .i64 ((l.length : Int) - t.length), .int .i64 0]) ∧ Below w.heap.size w w' := by
  have hS := src_new hB hA
  have hx := (Ctx0.of hC hM).step (pbox_below w (.slice a l.length c))
  exact parse_of w a c l k T _ 0 (read_ok (w.heap.size + 1) w.heap.size _ l t 999 k T hlt hll hS fun w' hf hs => hF _ _ w' hs (hx.step (FrS.bel hf hS.leB hS.ge)))
set_option maxHeartbeats 1000000 in
theorem rnew_calls (w : World) : Calls Tryz.prog 6 #[] w fun e w' => e = .returned (.pointer (some ⟨w.heap.size, 0, none⟩)) ∧ w' = w.alloc (.cells #[.slice none 0 0, .bool false] 41) := by
  go_enter Tryz.func6, Tryz.ntmps6
  go_wp2
  go_ret
  exact ⟨rfl, rfl⟩
set_option maxHeartbeats 1000000 in
theorem rleft_calls (L : Nat) (a : Option Addr) (n c : Nat) (w : World) (h0 : w.cell? ⟨L, 0, none⟩ = some (.slice a n c)) : Calls Tryz.prog 9 #[.pointer (some ⟨L, 0, none⟩)] w fun e w' => e = .returned (.int .i64 (n : Nat)) ∧ w = w' := by
  go_enter Tryz.func9, Tryz.ntmps9
  go_wp2
  go_ret
  exact ⟨rfl, rfl⟩
end Go.Proofs.YtimgkbpiengnjaaGreatDoor.Ln
