/- Package mode: small; what its walks read of the library's tables. No condition but bounds. -/
import Derived.Test.YtjpbpdjomfkkeaaGreatDoorMb6
import Derived.Test.YtjpbpdjomfkkeaaGreatDoorParse
namespace Go.Proofs.YtjpbpdjomfkkeaaGreatDoor.Ma
set_option linter.unusedVariables false
set_option linter.unusedSimpArgs false
open Go.ChangeShapes Go.WideShapes Go.ChangeAt Go.RowKit
open Go.Proofs.YtjpbpdjomfkkeaaGreatDoor.Sp (bstep bbox)
/-- What start-up lays, as far as the walks read it. -/
structure MCtx (w : World) : Prop where
  c : Ctx w
  u8 : Lib.Utf8Tabs 0 1 w
theorem w32 (n : Int) (h0 : 0 ≤ n) (h1 : n < 2147483648) : IntKind.i32.wrap n = n := by
  simp [IntKind.wrap, IntKind.bits, IntKind.signed]
  split <;> omega
theorem utf8_below {a b : Nat} {w w' : World} (h : Lib.Utf8Tabs a b w) (hb : Below w.heap.size w w') : Lib.Utf8Tabs a b w' := by
  refine ⟨fun c hc => ?_, fun i hi => ?_⟩
  · exact (hb.cell (p := ⟨a, c, none⟩) (World.block_lt_of_cell? w _ (h.1 c hc))).trans (h.1 c hc)
  · obtain ⟨h1, h2⟩ := h.2 i hi
    exact ⟨(hb.cell (p := ⟨b, 2 * i, none⟩) (World.block_lt_of_cell? w _ h1)).trans h1, (hb.cell (p := ⟨b, 2 * i + 1, none⟩) (World.block_lt_of_cell? w _ h2)).trans h2⟩
theorem MCtx.below {w w' : World} (h : MCtx w) (hb : Below w.heap.size w w') : MCtx w' := ⟨h.c.below hb, utf8_below h.u8 hb⟩
set_option maxHeartbeats 4000000 in
theorem small1_calls (w : World) (x : Nat) (hx : x ≤ 1114111) :
    Calls Tryz.prog 37 #[.int .i32 (x : Int)] w fun e w' => e = .returned (.int .i32 (fl x)) ∧ w' = w := by
  unfold fl
  by_cases h1 : (65 : Int) ≤ x
  case neg =>
    rw [if_neg (fun h => h1 h.1)]
    go_enter Tryz.func37, Tryz.ntmps37
    go_wp2_with fail
    go_ret
    exact ⟨rfl, rfl⟩
  by_cases h2 : (x : Int) ≤ 90
  case neg =>
    rw [if_neg (fun h => h2 h.2)]
    go_enter Tryz.func37, Tryz.ntmps37
    go_wp2_with fail
    go_ret
    exact ⟨rfl, rfl⟩
  rw [if_pos ⟨h1, h2⟩]
  have e1 : IntKind.i32.wrap ((x : Int) + 97) = (x : Int) + 97 := w32 _ (by omega) (by omega)
  have e2 : IntKind.i32.wrap ((x : Int) + 97 - 65) = (x : Int) + 97 - 65 := w32 _ (by omega) (by omega)
  go_enter Tryz.func37, Tryz.ntmps37
  go_wp2_with fail
  go_ret
  refine ⟨?_, rfl⟩
  first | rfl | (congr 2; omega) | (simp; omega)
theorem small_map (w : World) : MapAtRunes Tryz.prog 37 #[] fl w := fun W x hx hb =>
  (small1_calls W x hx).mono fun _ _ h => ⟨h.1, 0, h.2⟩
theorem ent_small1 : ∀ args w, (callFunc 37 args).run Tryz.prog w = .ok (.enter 37 args) w := enters_of Tryz.func37 (by kernel_rfl) rfl
/-- The word in small letters. -/
def lowS (s : BA) : BA := mk (Lib.mapD fl (tl s))
set_option maxHeartbeats 4000000 in
theorem small_calls (w : World) (s : BA) (hs : s.size ≤ 1000000) (hT : MCtx w) :
    Calls Tryz.prog 30 #[.string s] w fun e w' => e = .returned (.string (lowS s)) ∧ Below w.heap.size w w' := by
  have H := Lib.hid (Any.strings_Map_runes Tryz.lays230 Tryz.Builder_Extra_230 37 #[] ent_small1 fl s w (by omega) (small_map w) fl_nn hT.u8)
  clear hT
  go_enter Tryz.func30, Tryz.ntmps30
  go_wp2_with fail
  refine H.out.mono ?_
  rintro e w2 ⟨rfl, hb⟩
  have HB := Lib.hid hb
  clear hb
  go_wp2_with fail
  go_ret
  exact ⟨rfl, HB.out⟩
theorem lowS_is (s : BA) (t : List UInt8) (ht : Small t) : ((lowS s).toList == t) = isW s t := by
  rw [tl_toList, Bool.eq_iff_iff, beq_iff_eq, isW_iff ht]
  exact Iff.rfl
end Go.Proofs.YtjpbpdjomfkkeaaGreatDoor.Ma
