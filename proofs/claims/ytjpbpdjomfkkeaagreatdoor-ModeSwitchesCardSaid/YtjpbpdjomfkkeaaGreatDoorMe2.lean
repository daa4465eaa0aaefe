/- The statements' modeAlive of layer 13; ModeNames. No condition. -/
import Derived.Test.YtjpbpdjomfkkeaaGreatDoorMc5
import Derived.Test.YtjpbpdjomfkkeaaGreatDoorMe1
import Derived.Test.YtjpbpdjomfkkeaaGreatDoorMd4
namespace Go.Proofs.YtjpbpdjomfkkeaaGreatDoor.Ma
set_option linter.unusedVariables false
set_option linter.unusedSimpArgs false
open Go.ChangeShapes Go.WideShapes Go.ChangeAt Go.RowKit
open Go.Proofs.YtjpbpdjomfkkeaaGreatDoor.Sp (bstep bbox Hp Th cellsT rowT)
theorem words_in (w : World) (l : List BA) (T : TypeId) : InS (w.alloc (.cells (l.map .string).toArray T)) (some ⟨w.heap.size, 0, none⟩) l := fun hp =>
  ⟨w.heap.size, 0, rfl, by simp, fun i hi => by rw [World.cell?_alloc_new]; simp [hi]⟩
theorem sizes_ok (l : List BA) (h : l.all (fun x => decide (x.size ≤ 1000000)) = true) : ∀ x ∈ l, x.size ≤ 1000000 := fun x hx => of_decide_eq_true (List.all_eq_true.1 h x hx)
/-- Parse of words that are written out. -/
theorem lit_calls (w : World) (b : Nat) (hbb : w.heap.size = b) (l : List BA) (vs : Array Value) (hvs : (l.map .string).toArray = vs) (T : TypeId) (n : Nat) (hn : n = l.length) (hb : n ≤ 1000) (hX : MCtx w) (hs : ∀ x ∈ l, x.size ≤ 1000000) (r : Md) (k : Int) (hr : parseM l = (r, k)) :
    Calls Tryz.prog 18 #[.slice (some ⟨b, 0, none⟩) n n] (w.alloc (.cells vs T)) fun e w' => ∃ v, e = .returned (.tuple #[mVv r v, .int .i64 k]) ∧ RowS w w' v r.ps := by
  subst hvs hbb
  exact (parse_calls _ _ n n l (hX.below (bbox _)) (words_in w l T) hn (Nat.le_refl _) (by omega) hb hs r k hr).mono fun e w' ⟨v, h1, h2⟩ => ⟨v, h1, h2.over (bbox _)⟩
set_option maxHeartbeats 16000000 in
set_option maxRecDepth 100000 in
theorem alive_calls (w : World) (hX : MCtx w) :
    Calls Tryz.prog 4 #[] w fun e w' => e = .returned (.bool true) ∧ Below w.heap.size w w' := by
  have HX := Lib.hid hX
  clear hX
  have HP1 := Lib.hid (fun W b (hbb : W.heap.size = b) (hW : Below w.heap.size w W) => lit_calls W b hbb [mk [111, 110], mk [111, 112, 116, 105, 110], mk [111, 112, 116, 111, 117, 116]] #[.string ⟨#[111, 110]⟩, .string ⟨#[111, 112, 116, 105, 110]⟩, .string ⟨#[111, 112, 116, 111, 117, 116]⟩] rfl 9 3 rfl (by omega) (HX.out.below hW) (sizes_ok _ rfl) zero 132 p_alive1)
  have HP2 := Lib.hid (fun W b (hbb : W.heap.size = b) (hW : Below w.heap.size w W) => lit_calls W b hbb [mk [79, 78], mk [98, 99, 97, 115, 116], mk [80, 114, 101, 102, 105, 120], mk [98], mk [80, 82, 69, 70, 73, 88], mk [97], mk [114, 101, 100, 105, 114, 101, 99, 116], mk [55]] #[.string ⟨#[79, 78]⟩, .string ⟨#[98, 99, 97, 115, 116]⟩, .string ⟨#[80, 114, 101, 102, 105, 120]⟩, .string ⟨#[98]⟩, .string ⟨#[80, 82, 69, 70, 73, 88]⟩, .string ⟨#[97]⟩, .string ⟨#[114, 101, 100, 105, 114, 101, 99, 116]⟩, .string ⟨#[55]⟩] rfl 9 8 rfl (by omega) (HX.out.below hW) (sizes_ok _ rfl) mAB 0 p_alive2)
  go_enter Tryz.func4, Tryz.ntmps4
  go_wp2_with fail
  refine (HP1.out _ _ rfl (Below.refl _ _)).mono ?_
  rintro e w2 ⟨v, rfl, hR⟩
  obtain ⟨ra, rc, rfl, -, -, -, -⟩ := hR.slice
  have HB2 := Lib.hid hR.bel
  clear hR HP1
  simp only [mVv, zero]
  go_upto_region 2 with fail
  have HB3 := Lib.hid (fun O => bstep HB2.out (bbox O))
  have HP3 := Lib.hid (fun O => HP2.out (w2.alloc O) (w2.heap.size + 1) (by simp) (HB3.out O))
  clear HP2
  go_wp2_with fail
  refine (HP3.out _).mono ?_
  rintro e w4 ⟨v4, rfl, hR4⟩
  obtain ⟨g4, c4, rfl⟩ := hR4.some' (by simp [mAB])
  obtain ⟨-, hc1, hc2, hcell⟩ := hR4.form
  have HR4 := Lib.hid hR4
  have HB4 := Lib.hid (bstep (HB3.out _) hR4.bel)
  have d0 : w4.cell? ⟨g4, 0, none⟩ = some (.string (mk [97])) := hcell 0 (by simp [mAB])
  clear hR4 hcell
  simp only [mVv, mAB]
  go_upto_region 3 with fail
  have d0a := fun O => ((bbox (w := w4) O).cell (p := ⟨g4, 0, none⟩) (World.block_lt_of_cell? w4 _ d0)).trans d0
  have HRt : Hid (∀ O, Calls Tryz.prog 19 #[.agg #[.bool true, .bool true, .bool false, .bool false, .bool false, .int .i64 7, .slice (some ⟨g4, 0, none⟩) 2 c4]] (w4.alloc O) fun e w' => e = .returned (.bool true) ∧ Below (w4.alloc O).heap.size (w4.alloc O) w') := Lib.hid (fun O => right_calls (w4.alloc O) mAB (some ⟨g4, 0, none⟩) c4 (by
    obtain ⟨x, y, e, -, -, -, h⟩ := (HR4.out.below (bbox O)).slice
    injection e with e1 e2 e3
    rw [e1]; exact h) (by simp [mAB]) true ⟨fun _ => right_ab, fun _ => rfl⟩)
  have HB5 := Lib.hid (fun O => bstep HB4.out (bbox O))
  clear HR4 HB4
  have ha : ((mk [97]).toList == [97]) = true := by rw [tl_toList]; rfl
  go_wp2_with fail
  refine (HRt.out _).mono ?_
  rintro e w5 ⟨rfl, hb5⟩
  have HB6 := Lib.hid (bstep (HB5.out _) hb5)
  clear hb5
  go_wp2_with fail
  go_ret
  exact ⟨rfl, HB6.out⟩
end Go.Proofs.YtjpbpdjomfkkeaaGreatDoor.Ma
