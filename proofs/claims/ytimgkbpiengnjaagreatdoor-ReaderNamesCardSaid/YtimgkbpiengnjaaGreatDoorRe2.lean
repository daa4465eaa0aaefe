/- The example of the statements of layer 5. Conditions: what start-up lays ('PCtx'); the variable MaxLen holds some int. -/
import Derived.Test.YtimgkbpiengnjaaGreatDoorRe1
import Derived.Lib.SmallJoins
namespace Go.Proofs.YtimgkbpiengnjaaGreatDoor.Ln
open Go.ChangeShapes Go.WideShapes Go.ChangeAt Go.RowKit

theorem RS.feedc {L : Nat} {w0 w : World} {l : List UInt8} (h : RS L w0 w l) (q : List UInt8) (C : Array Value) (hC : C = (cellsB q).toArray) (fr : Nat × Nat) (n : Nat) (hn : n = q.length) (hm : l.length + q.length ≤ 1000000) :
    Calls Tryz.prog 7 #[.pointer (some ⟨L, 0, none⟩), .slice (some ⟨w.heap.size, 0, none⟩) n n] (w.alloc (.cells C 5 fr)) fun e w' => e = .returned (.tuple #[]) ∧ RS L w0 w' (l ++ q) := by
  subst hn
  exact (h.below (bbox _)).feed (inb_new w C q hC fr (by omega)) hm
set_option maxRecDepth 100000 in
set_option maxHeartbeats 400000 in
theorem ralive_calls (w : World) (hc : PCtx w) (hmx : MaxOk w) : Calls Tryz.prog 4 #[] w fun e w' => e = .returned (.bool true) ∧ Below w.heap.size w w' := by
  have HC : Hid (Ctx0 w.heap.size w) := Lib.hid (Ctx0.of hc hmx)
  have HN := Lib.hid (rnew_calls w)
  have kc := fun (w : World) (C : Array Value) (n c : Nat) => Lib.run_convert_bytes_const (P := Tryz.prog) w 30 5 C n c Tryz.underlying30 Tryz.underlying5
  clear hc hmx
  go_enter Tryz.func4, Tryz.ntmps4
  go_wp2_with fail
  refine HN.out.mono ?_; rintro en w1 ⟨rfl, hw1⟩
  have HR : Hid (RS w.heap.size w w1 []) := Lib.hid (by rw [hw1]; exact RS.start w)
  clear hw1
  generalize hL : w.heap.size = L at *
  have HLe : Hid (w.heap.size ≤ L) := Lib.hid (Nat.le_of_eq hL)
  clear hL
  have HF := Lib.hid (HR.out.feedc t1 #[.int .u8 36, .int .u8 50, .int .u8 13, .int .u8 10, .int .u8 97] rfl (5, 6) 5 rfl (by decide))
  go_wp2_with fail
  refine HF.out.mono ?_; rintro en w2 ⟨rfl, hr2⟩
  have HX := Lib.hid (hr2.wait (by decide) (by decide) HC.out f1)
  clear hr2 HF HR
  go_wp2_with fail
  refine HX.out.mono ?_; rintro en w3 ⟨rfl, hr3⟩
  have e3 : (w3.alloc (.cells #[.int .i64 0, .string ⟨#[]⟩, .int .i64 0, .float .f64 0, .bool false, .slice none 0 0] 26)).heap.size = w3.heap.size + 1 := by simp
  have kc3 := kc (w3.alloc (.cells #[.int .i64 0, .string ⟨#[]⟩, .int .i64 0, .float .f64 0, .bool false, .slice none 0 0] 26)) #[.int .u8 98, .int .u8 13, .int .u8 10] 3 3
  have hf3 := (hr3.below (bbox (.cells #[.int .i64 0, .string ⟨#[]⟩, .int .i64 0, .float .f64 0, .bool false, .slice none 0 0] 26))).feedc t2 #[.int .u8 98, .int .u8 13, .int .u8 10] rfl (3, 4) 3 rfl (by decide)
  rw [e3] at kc3 hf3
  have HF3 := Lib.hid hf3
  clear e3 hf3
  clear hr3 HX
  go_wp2_with fail
  refine HF3.out.mono ?_; rintro en w4 ⟨rfl, hr4⟩
  have HX4 := Lib.hid (hr4.ok (by decide) (by decide) HC.out f2)
  clear hr4 HF3
  go_wp2_with fail
  refine HX4.out.mono ?_; rintro en w5 ⟨rfl, hr5⟩
  have HR5 := Lib.hid (hr5.below (bbox (.cells #[.int .i64 4, .string ⟨#[97, 98]⟩, .int .i64 0, .float .f64 0, .bool false, .slice none 0 0] 26)))
  have HL5 := Lib.hid HR5.out.left
  clear hr5 HX4
  go_wp2_with fail
  refine HL5.out.mono ?_; rintro en w6 ⟨rfl, rfl⟩
  go_wp2_with fail
  go_ret
  exact ⟨rfl, HR5.out.bel.mono HLe.out⟩
end Go.Proofs.YtimgkbpiengnjaaGreatDoor.Ln
