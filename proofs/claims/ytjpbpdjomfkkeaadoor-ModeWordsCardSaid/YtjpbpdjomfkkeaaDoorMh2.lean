/- ModeWords. No condition but those of its arguments' types. -/
import Derived.Test.YtjpbpdjomfkkeaaDoorMh1
import Derived.Deep.RegionHeld3
namespace Go.Proofs.YtjpbpdjomfkkeaaDoor.Ma
set_option linter.unusedVariables false
set_option linter.unusedSimpArgs false
open Go.ChangeShapes Go.WideShapes Go.ChangeAt Go.RowKit
open Go.Proofs.YtjpbpdjomfkkeaaDoor.Sp (bstep bbox Hp Th cellsT rowT)
def bi (b : Bool) : Int := if b then 1 else 0
set_option maxHeartbeats 4000000 in
theorem bit_calls (w : World) (b : Bool) : Calls Tryd.prog 20 #[.bool b] w fun e w' => e = .returned (.int .i64 (bi b)) ∧ w = w' := by
  unfold bi
  cases b <;>
  · go_enter Tryd.func20, Tryd.ntmps20
    go_wp2_with fail
    go_ret
    exact ⟨rfl, rfl⟩
/-- Texts appended to a row, beside other things. -/
theorem pushHs {o w wb : World} {rs : List Th} {v : Value} {L : List BA} {ops : Array Oper} {rest : List Oper} {op : Oper} {a : Act} {Q : Exit → Act → World → Prop} (h : Hp o w (rowST v L :: rs)) (hw : Below w.heap.size w wb) (hgd : op.guard = none) (s x : Operand)
    (ho : op.op = .call { callee := .builtin .append, args := #[s, x], argTypes := #[22, 22] }) (hs : a.eval s = v) (r : List BA) (n c : Nat) {b : Nat} (hx : a.eval x = .slice (some ⟨b, 0, none⟩) n c) (hn : n = r.length) (hc : ∀ j (hj : j < r.length), wb.cell? ⟨b, j, none⟩ = some (.string r[j])) (hl : L.length ≤ 1000000) (hr : r.length ≤ 1000000)
    (K : ∀ v' w', Hp o w' (rowST v' (L ++ r) :: rs) → wpList Tryd.prog ops Q rest (a.put op.dst v') w') : wpList Tryd.prog ops Q (op :: rest) a wb := by
  obtain ⟨i0, hi, hz0, hz1, hz2⟩ := info_parts iStr
  subst hn
  refine Hp.rowPush h hw hgd s x 22 ho i0 (.string ⟨#[]⟩) 16 Tryd.underlying22 hi hz0 hz1 hz2 rfl (by decide) hs ⟨b, 0, none⟩ r.length c (cellsS r) hx (cellsS_len r)
    (fun j u hj => by
      have hjr : j < r.length := by
        have h0 := (List.getElem?_eq_some_iff.1 hj).1
        rwa [cellsS_len, Nat.mul_one] at h0
      rw [Addr.add_lit, Nat.zero_add, hc j hjr, ← hj]
      simp [cellsS, hjr])
    (fun u hu => by
      obtain ⟨y, -, rfl⟩ := List.mem_map.1 hu
      rfl) (by unfold maxLen; omega) (by omega) fun v' w' hH _ => K v' w' ?_
  unfold rowST
  rw [List.length_append, show cellsS (L ++ r) = cellsS L ++ cellsS r from List.map_append]
  exact hH
set_option maxHeartbeats 64000000 in
set_option maxRecDepth 100000 in
theorem modeWords (w : World) (hX : MCtx w) (m : Md) (a : Option Addr) (c : Nat) (hlc : m.ps.length ≤ c) (hcb : c ≤ 9223372036854775807) (hI : InS w a m.ps) (sm : Bool) :
    Calls Tryd.prog 6 #[mV m a c, .bool sm] w fun e w' => e = .returned (.bool true) ∧ Below w.heap.size w w' := by
  have HX := Lib.hid hX
  clear hX
  have HA := Lib.hid (fun W (hW : Below w.heap.size w W) => alive_calls W (HX.out.below hW))
  obtain ⟨bg, hbg⟩ := some_b (Great m)
  have HG := Lib.hid (fun W (hW : Below w.heap.size w W) => great_calls W m a c (hI.bel hW) (by omega) bg hbg)
  have HGi := Lib.hid hbg
  have HIa := Lib.hid (fun W (hW : Below w.heap.size w W) => hI.bel hW)
  have HRf : Hid (m.ps.length ≤ 1000000 → ∀ b, (b = true ↔ RightM m) → ∀ W, Below w.heap.size w W → Calls Tryd.prog 17 #[mV m a c] W fun e w' => e = .returned (.bool b) ∧ Below W.heap.size W w') := Lib.hid (fun hl b hb W hW => refRight_calls W m a c (hI.bel hW) hlc hl b hb)
  obtain ⟨on, bc, oi, oo, nl, rd, ps⟩ := m
  unfold mV at HG HRf
  unfold mV
  simp only at HG HRf HIa ⊢
  have HD := Lib.hid (CellL.new w [.bool on, .bool bc, .bool oi, .bool oo, .bool nl, .int .i64 rd, .slice a ps.length c] 24)
  have HB := Lib.hid (bbox (w := w) (.cells #[.bool on, .bool bc, .bool oi, .bool oo, .bool nl, .int .i64 rd, .slice a ps.length c] 24))
  clear hbg hI
  go_enter Tryd.func6, Tryd.ntmps6
  go_upto_region 1 with fail
  have HD : Hid (CellL (w.alloc (.cells #[.bool on, .bool bc, .bool oi, .bool oo, .bool nl, .int .i64 rd, .slice a ps.length c] 24)) w.heap.size [.bool on, .bool bc, .bool oi, .bool oo, .bool nl, .int .i64 rd, .slice a ps.length c]) := HD
  generalize (w.alloc (.cells #[.bool on, .bool bc, .bool oi, .bool oo, .bool nl, .int .i64 rd, .slice a ps.length c] 24)) = w1 at *
  obtain ⟨b1, hb1⟩ : ∃ b1, w.heap.size = b1 := ⟨_, rfl⟩
  have HBB : Hid (Below w.heap.size w w1) := HB
  simp only [hb1] at HD ⊢
  clear HB hb1
  go_wp2_with fail
  refine (HA.out _ HBB.out).mono ?_
  rintro e w2 ⟨rfl, hb2⟩
  have HD2 := Lib.hid (HD.out.below hb2)
  have HBB2 := Lib.hid (bstep HBB.out hb2)
  clear hb2 HA HD HBB
  have x0 := HD2.out.at 0 rfl
  have x1 := HD2.out.at 1 rfl
  have x2 := HD2.out.at 2 rfl
  have x3 := HD2.out.at 3 rfl
  have x4 := HD2.out.at 4 rfl
  have x5 := HD2.out.at 5 rfl
  have x6 := HD2.out.at 6 rfl
  go_wp2_with fail
  refine (HG.out _ HBB2.out).mono ?_
  rintro e w3 ⟨rfl, hb3⟩
  have HD3 := Lib.hid (HD2.out.below hb3)
  have HBB3 := Lib.hid (bstep HBB2.out hb3)
  clear hb3 HG HD2 HBB2 x0 x1 x2 x3 x4 x5 x6
  cases bg with
  | true =>
    go_wp2_with fail
    go_ret
    exact ⟨by first | rfl | simp, HBB3.out⟩
  | false =>
    have hng : ¬ Great (⟨on, bc, oi, oo, nl, rd, ps⟩ : Md) := fun h => by have := HGi.out.2 h; cases this
    have hps : ps.length ≤ 50 := Nat.le_of_not_lt fun k => hng (.inl k)
    have HSz : Hid (∀ p ∈ ps, p.size ≤ 600) := Lib.hid (fun p hp => Nat.le_of_not_lt fun k => by
      obtain ⟨i, hi, rfl⟩ := List.mem_iff_getElem.1 hp
      exact hng (.inr ⟨i, hi, k⟩))
    clear hng
    obtain ⟨br, hbr⟩ := some_b (RightM ⟨on, bc, oi, oo, nl, rd, ps⟩)
    have HRt := Lib.hid (HRf.out (by omega) br hbr)
    have HBr := Lib.hid hbr
    clear hbr HRf
    have x0 := HD3.out.at 0 rfl
    have x1 := HD3.out.at 1 rfl
    have x2 := HD3.out.at 2 rfl
    have x3 := HD3.out.at 3 rfl
    have x4 := HD3.out.at 4 rfl
    have x5 := HD3.out.at 5 rfl
    have x6 := HD3.out.at 6 rfl
    go_wp2_with fail
    refine (HRt.out _ HBB3.out).mono ?_
    rintro e w4 ⟨rfl, hb4⟩
    have HD4 := Lib.hid (HD3.out.below hb4)
    have HBB4 := Lib.hid (bstep HBB3.out hb4)
    clear hb4 HRt HD3 HBB3 x0 x1 x2 x3 x4 x5 x6
    cases br with
    | false =>
      go_wp2_with fail
      go_ret
      exact ⟨by first | rfl | simp, HBB4.out⟩
    | true =>
      have hRi : RightM ⟨on, bc, oi, oo, nl, rd, ps⟩ := by have h := HBr.out; first | exact h.1 rfl | exact h.1 trivial | simpa using h
      have HRi := Lib.hid hRi
      clear hRi HBr
      cases on with
      | false =>
        have hz := off_zero HRi.out rfl
        unfold zero at hz
        injection hz with z0 z1 z2 z3 z4 z5 z6
        subst z1 z2 z3 z4 z5 z6
        have HP1 := Lib.hid (fun W b (hbb : W.heap.size = b) (hW : Below w.heap.size w W) => lit_calls W b hbb [mk [111, 102, 102]] #[.string ⟨#[111, 102, 102]⟩] rfl 9 1 rfl (by omega) (HX.out.below hW) (sizes_ok _ rfl) zero 0 p_off)
        cases sm with
        | false =>
          have hb := bbox (w := w4) (.cells #[.string ⟨#[79, 78]⟩, .string ⟨#[66, 67, 65, 83, 84]⟩, .string ⟨#[79, 80, 84, 73, 78]⟩, .string ⟨#[79, 80, 84, 79, 85, 84]⟩, .string ⟨#[78, 79, 76, 79, 79, 80]⟩] 9)
          have HW5 := Lib.hid (CellL.new w4 [.string ⟨#[79, 78]⟩, .string ⟨#[66, 67, 65, 83, 84]⟩, .string ⟨#[79, 80, 84, 73, 78]⟩, .string ⟨#[79, 80, 84, 79, 85, 84]⟩, .string ⟨#[78, 79, 76, 79, 79, 80]⟩] 9)
          have HD5 := Lib.hid (HD4.out.below hb)
          have HBB5 := Lib.hid (bstep HBB4.out hb)
          clear hb HD4 HBB4
          go_upto_region 8 with fail
          have HW5 : Hid (CellL (w4.alloc (.cells #[.string ⟨#[79, 78]⟩, .string ⟨#[66, 67, 65, 83, 84]⟩, .string ⟨#[79, 80, 84, 73, 78]⟩, .string ⟨#[79, 80, 84, 79, 85, 84]⟩, .string ⟨#[78, 79, 76, 79, 79, 80]⟩] 9)) (w4.heap.size) [.string ⟨#[79, 78]⟩, .string ⟨#[66, 67, 65, 83, 84]⟩, .string ⟨#[79, 80, 84, 73, 78]⟩, .string ⟨#[79, 80, 84, 79, 85, 84]⟩, .string ⟨#[78, 79, 76, 79, 79, 80]⟩]) := HW5
          have HD5 : Hid (CellL (w4.alloc (.cells #[.string ⟨#[79, 78]⟩, .string ⟨#[66, 67, 65, 83, 84]⟩, .string ⟨#[79, 80, 84, 73, 78]⟩, .string ⟨#[79, 80, 84, 79, 85, 84]⟩, .string ⟨#[78, 79, 76, 79, 79, 80]⟩] 9)) b1 [.bool false, .bool false, .bool false, .bool false, .bool false, .int .i64 0, .slice a 0 c]) := HD5
          have HBB5 : Hid (Below w.heap.size w (w4.alloc (.cells #[.string ⟨#[79, 78]⟩, .string ⟨#[66, 67, 65, 83, 84]⟩, .string ⟨#[79, 80, 84, 73, 78]⟩, .string ⟨#[79, 80, 84, 79, 85, 84]⟩, .string ⟨#[78, 79, 76, 79, 79, 80]⟩] 9))) := HBB5
          generalize (w4.alloc (.cells #[.string ⟨#[79, 78]⟩, .string ⟨#[66, 67, 65, 83, 84]⟩, .string ⟨#[79, 80, 84, 73, 78]⟩, .string ⟨#[79, 80, 84, 79, 85, 84]⟩, .string ⟨#[78, 79, 76, 79, 79, 80]⟩] 9)) = w5 at *
          generalize hgg : w4.heap.size = g at *
          clear hgg
          have HD5 : Hid (CellL w5 b1 [.bool false, .bool false, .bool false, .bool false, .bool false, .int .i64 0, .slice a 0 c]) := HD5
          have x0 := HD5.out.at 0 rfl
          have x1 := HD5.out.at 1 rfl
          have x2 := HD5.out.at 2 rfl
          have x3 := HD5.out.at 3 rfl
          have x4 := HD5.out.at 4 rfl
          have x5 := HD5.out.at 5 rfl
          have x6 := HD5.out.at 6 rfl
          go_wp2_with fail
          refine (HP1.out _ _ rfl HBB5.out).mono ?_
          rintro e w6 ⟨v, rfl, hR⟩
          obtain ⟨ra, rc, rfl, -, -, -, hI6⟩ := hR.slice
          have HI6 := Lib.hid hI6
          have HD6 := Lib.hid (HD5.out.below hR.bel)
          have HBB6 := Lib.hid (bstep HBB5.out hR.bel)
          clear hR hI6 HD5 HBB5 x0 x1 x2 x3 x4 x5 x6 HP1
          simp only [mVv, zero]
          go_upto_region 10 with fail
          have HSm : Hid (∀ O, Calls Tryd.prog 18 #[.agg #[.bool false, .bool false, .bool false, .bool false, .bool false, .int .i64 0, .slice ra 0 rc], .agg #[.bool false, .bool false, .bool false, .bool false, .bool false, .int .i64 0, .slice a 0 c]] (w6.alloc O) fun e w' => e = .returned (.bool true) ∧ Below (w6.alloc O).heap.size (w6.alloc O) w') := Lib.hid (fun O => same_calls (w6.alloc O) zero zero ra a rc c (InS.nil _ _) (InS.nil _ _) (by simp [zero]) (by simp [zero]) true ⟨fun _ => rfl, fun _ => rfl⟩)
          have HBB7 := Lib.hid (fun O => bstep HBB6.out (bbox O))
          have HD7 := Lib.hid (fun O => HD6.out.below (bbox O))
          clear HBB6 HD6
          have x0 := fun O => (HD7.out O).at 0 rfl
          have x1 := fun O => (HD7.out O).at 1 rfl
          have x2 := fun O => (HD7.out O).at 2 rfl
          have x3 := fun O => (HD7.out O).at 3 rfl
          have x4 := fun O => (HD7.out O).at 4 rfl
          have x5 := fun O => (HD7.out O).at 5 rfl
          have x6 := fun O => (HD7.out O).at 6 rfl
          go_wp2_with fail
          refine (HSm.out _).mono ?_
          rintro e w8 ⟨rfl, hb8⟩
          have HBB8 := Lib.hid (bstep (HBB7.out _) hb8)
          clear hb8
          go_wp2_with fail
          go_ret
          exact ⟨by first | rfl | simp, HBB8.out⟩
        | true =>
          have hb := bstep (bbox (w := w4) (.cells #[.string ⟨#[79, 78]⟩, .string ⟨#[66, 67, 65, 83, 84]⟩, .string ⟨#[79, 80, 84, 73, 78]⟩, .string ⟨#[79, 80, 84, 79, 85, 84]⟩, .string ⟨#[78, 79, 76, 79, 79, 80]⟩] 9)) (bbox (.cells #[.string ⟨#[111, 110]⟩, .string ⟨#[98, 99, 97, 115, 116]⟩, .string ⟨#[111, 112, 116, 105, 110]⟩, .string ⟨#[111, 112, 116, 111, 117, 116]⟩, .string ⟨#[110, 111, 108, 111, 111, 112]⟩] 9))
          have HW5 := Lib.hid (CellL.new2 (w4.alloc (.cells #[.string ⟨#[79, 78]⟩, .string ⟨#[66, 67, 65, 83, 84]⟩, .string ⟨#[79, 80, 84, 73, 78]⟩, .string ⟨#[79, 80, 84, 79, 85, 84]⟩, .string ⟨#[78, 79, 76, 79, 79, 80]⟩] 9)) (w4.heap.size + 1) (by simp) [.string ⟨#[111, 110]⟩, .string ⟨#[98, 99, 97, 115, 116]⟩, .string ⟨#[111, 112, 116, 105, 110]⟩, .string ⟨#[111, 112, 116, 111, 117, 116]⟩, .string ⟨#[110, 111, 108, 111, 111, 112]⟩] 9)
          have HD5 := Lib.hid (HD4.out.below hb)
          have HBB5 := Lib.hid (bstep HBB4.out hb)
          clear hb HD4 HBB4
          go_upto_region 8 with fail
          have HW5 : Hid (CellL ((w4.alloc (.cells #[.string ⟨#[79, 78]⟩, .string ⟨#[66, 67, 65, 83, 84]⟩, .string ⟨#[79, 80, 84, 73, 78]⟩, .string ⟨#[79, 80, 84, 79, 85, 84]⟩, .string ⟨#[78, 79, 76, 79, 79, 80]⟩] 9)).alloc (.cells #[.string ⟨#[111, 110]⟩, .string ⟨#[98, 99, 97, 115, 116]⟩, .string ⟨#[111, 112, 116, 105, 110]⟩, .string ⟨#[111, 112, 116, 111, 117, 116]⟩, .string ⟨#[110, 111, 108, 111, 111, 112]⟩] 9)) (w4.heap.size + 1) [.string ⟨#[111, 110]⟩, .string ⟨#[98, 99, 97, 115, 116]⟩, .string ⟨#[111, 112, 116, 105, 110]⟩, .string ⟨#[111, 112, 116, 111, 117, 116]⟩, .string ⟨#[110, 111, 108, 111, 111, 112]⟩]) := HW5
          have HD5 : Hid (CellL ((w4.alloc (.cells #[.string ⟨#[79, 78]⟩, .string ⟨#[66, 67, 65, 83, 84]⟩, .string ⟨#[79, 80, 84, 73, 78]⟩, .string ⟨#[79, 80, 84, 79, 85, 84]⟩, .string ⟨#[78, 79, 76, 79, 79, 80]⟩] 9)).alloc (.cells #[.string ⟨#[111, 110]⟩, .string ⟨#[98, 99, 97, 115, 116]⟩, .string ⟨#[111, 112, 116, 105, 110]⟩, .string ⟨#[111, 112, 116, 111, 117, 116]⟩, .string ⟨#[110, 111, 108, 111, 111, 112]⟩] 9)) b1 [.bool false, .bool false, .bool false, .bool false, .bool false, .int .i64 0, .slice a 0 c]) := HD5
          have HBB5 : Hid (Below w.heap.size w ((w4.alloc (.cells #[.string ⟨#[79, 78]⟩, .string ⟨#[66, 67, 65, 83, 84]⟩, .string ⟨#[79, 80, 84, 73, 78]⟩, .string ⟨#[79, 80, 84, 79, 85, 84]⟩, .string ⟨#[78, 79, 76, 79, 79, 80]⟩] 9)).alloc (.cells #[.string ⟨#[111, 110]⟩, .string ⟨#[98, 99, 97, 115, 116]⟩, .string ⟨#[111, 112, 116, 105, 110]⟩, .string ⟨#[111, 112, 116, 111, 117, 116]⟩, .string ⟨#[110, 111, 108, 111, 111, 112]⟩] 9))) := HBB5
          generalize ((w4.alloc (.cells #[.string ⟨#[79, 78]⟩, .string ⟨#[66, 67, 65, 83, 84]⟩, .string ⟨#[79, 80, 84, 73, 78]⟩, .string ⟨#[79, 80, 84, 79, 85, 84]⟩, .string ⟨#[78, 79, 76, 79, 79, 80]⟩] 9)).alloc (.cells #[.string ⟨#[111, 110]⟩, .string ⟨#[98, 99, 97, 115, 116]⟩, .string ⟨#[111, 112, 116, 105, 110]⟩, .string ⟨#[111, 112, 116, 111, 117, 116]⟩, .string ⟨#[110, 111, 108, 111, 111, 112]⟩] 9)) = w5 at *
          generalize hgg : w4.heap.size + 1 = g at *
          clear hgg
          have HD5 : Hid (CellL w5 b1 [.bool false, .bool false, .bool false, .bool false, .bool false, .int .i64 0, .slice a 0 c]) := HD5
          have x0 := HD5.out.at 0 rfl
          have x1 := HD5.out.at 1 rfl
          have x2 := HD5.out.at 2 rfl
          have x3 := HD5.out.at 3 rfl
          have x4 := HD5.out.at 4 rfl
          have x5 := HD5.out.at 5 rfl
          have x6 := HD5.out.at 6 rfl
          go_wp2_with fail
          refine (HP1.out _ _ rfl HBB5.out).mono ?_
          rintro e w6 ⟨v, rfl, hR⟩
          obtain ⟨ra, rc, rfl, -, -, -, hI6⟩ := hR.slice
          have HI6 := Lib.hid hI6
          have HD6 := Lib.hid (HD5.out.below hR.bel)
          have HBB6 := Lib.hid (bstep HBB5.out hR.bel)
          clear hR hI6 HD5 HBB5 x0 x1 x2 x3 x4 x5 x6 HP1
          simp only [mVv, zero]
          go_upto_region 10 with fail
          have HSm : Hid (∀ O, Calls Tryd.prog 18 #[.agg #[.bool false, .bool false, .bool false, .bool false, .bool false, .int .i64 0, .slice ra 0 rc], .agg #[.bool false, .bool false, .bool false, .bool false, .bool false, .int .i64 0, .slice a 0 c]] (w6.alloc O) fun e w' => e = .returned (.bool true) ∧ Below (w6.alloc O).heap.size (w6.alloc O) w') := Lib.hid (fun O => same_calls (w6.alloc O) zero zero ra a rc c (InS.nil _ _) (InS.nil _ _) (by simp [zero]) (by simp [zero]) true ⟨fun _ => rfl, fun _ => rfl⟩)
          have HBB7 := Lib.hid (fun O => bstep HBB6.out (bbox O))
          have HD7 := Lib.hid (fun O => HD6.out.below (bbox O))
          clear HBB6 HD6
          have x0 := fun O => (HD7.out O).at 0 rfl
          have x1 := fun O => (HD7.out O).at 1 rfl
          have x2 := fun O => (HD7.out O).at 2 rfl
          have x3 := fun O => (HD7.out O).at 3 rfl
          have x4 := fun O => (HD7.out O).at 4 rfl
          have x5 := fun O => (HD7.out O).at 5 rfl
          have x6 := fun O => (HD7.out O).at 6 rfl
          go_wp2_with fail
          refine (HSm.out _).mono ?_
          rintro e w8 ⟨rfl, hb8⟩
          have HBB8 := Lib.hid (bstep (HBB7.out _) hb8)
          clear hb8
          go_wp2_with fail
          go_ret
          exact ⟨by first | rfl | simp, HBB8.out⟩
      | true =>
        obtain ⟨Bs, hBs⟩ : ∃ Bs, bsOf sm (⟨true, bc, oi, oo, nl, rd, ps⟩ : Md) = Bs := ⟨_, rfl⟩
        have hB4 : Bs.length = 4 := by rw [← hBs]; exact bs_len _ _
        have HB4 := Lib.hid hB4
        have HPw := Lib.hid (parse_words sm HRi.out rfl)
        have HSw := Lib.hid (size_words sm (⟨true, bc, oi, oo, nl, rd, ps⟩ : Md) ps.reverse (fun p hp => HSz.out p (List.mem_reverse.1 hp)))
        have HBit : Hid (∀ j (h : j < Bs.length), ([.int .i64 (bi bc), .int .i64 (bi oi), .int .i64 (bi oo), .int .i64 (bi nl)] : List Value)[j]? = some (.int .i64 (bi Bs[j].2))) := Lib.hid (by
          subst hBs
          intro j h
          cases sm
          all_goals
            match j, h with
            | 0, _ => rfl
            | 1, _ => rfl
            | 2, _ => rfl
            | 3, _ => rfl)
        rw [hBs] at HPw HSw
        have HWd : Hid (∀ j (h : j < Bs.length) (h' : j + 1 < (wds sm).length), (wds sm)[j + 1] = Bs[j].1) := Lib.hid (by
          subst hBs
          intro j h h'
          exact bs_wds sm _ j h h')
        clear hBs hB4
        have HBt := Lib.hid (fun W b => bit_calls W b)
        cases sm with
        | false =>
          have hb := bbox (w := w4) (.cells #[.string ⟨#[79, 78]⟩, .string ⟨#[66, 67, 65, 83, 84]⟩, .string ⟨#[79, 80, 84, 73, 78]⟩, .string ⟨#[79, 80, 84, 79, 85, 84]⟩, .string ⟨#[78, 79, 76, 79, 79, 80]⟩] 9)
          have HW5 := Lib.hid (CellL.new w4 [.string ⟨#[79, 78]⟩, .string ⟨#[66, 67, 65, 83, 84]⟩, .string ⟨#[79, 80, 84, 73, 78]⟩, .string ⟨#[79, 80, 84, 79, 85, 84]⟩, .string ⟨#[78, 79, 76, 79, 79, 80]⟩] 9)
          have HD5 := Lib.hid (HD4.out.below hb)
          have HBB5 := Lib.hid (bstep HBB4.out hb)
          clear hb HD4 HBB4
          go_upto_region 8 with fail
          have HW5 : Hid (CellL (w4.alloc (.cells #[.string ⟨#[79, 78]⟩, .string ⟨#[66, 67, 65, 83, 84]⟩, .string ⟨#[79, 80, 84, 73, 78]⟩, .string ⟨#[79, 80, 84, 79, 85, 84]⟩, .string ⟨#[78, 79, 76, 79, 79, 80]⟩] 9)) (w4.heap.size) [.string ⟨#[79, 78]⟩, .string ⟨#[66, 67, 65, 83, 84]⟩, .string ⟨#[79, 80, 84, 73, 78]⟩, .string ⟨#[79, 80, 84, 79, 85, 84]⟩, .string ⟨#[78, 79, 76, 79, 79, 80]⟩]) := HW5
          have HD5 : Hid (CellL (w4.alloc (.cells #[.string ⟨#[79, 78]⟩, .string ⟨#[66, 67, 65, 83, 84]⟩, .string ⟨#[79, 80, 84, 73, 78]⟩, .string ⟨#[79, 80, 84, 79, 85, 84]⟩, .string ⟨#[78, 79, 76, 79, 79, 80]⟩] 9)) b1 [.bool true, .bool bc, .bool oi, .bool oo, .bool nl, .int .i64 rd, .slice a ps.length c]) := HD5
          have HBB5 : Hid (Below w.heap.size w (w4.alloc (.cells #[.string ⟨#[79, 78]⟩, .string ⟨#[66, 67, 65, 83, 84]⟩, .string ⟨#[79, 80, 84, 73, 78]⟩, .string ⟨#[79, 80, 84, 79, 85, 84]⟩, .string ⟨#[78, 79, 76, 79, 79, 80]⟩] 9))) := HBB5
          generalize (w4.alloc (.cells #[.string ⟨#[79, 78]⟩, .string ⟨#[66, 67, 65, 83, 84]⟩, .string ⟨#[79, 80, 84, 73, 78]⟩, .string ⟨#[79, 80, 84, 79, 85, 84]⟩, .string ⟨#[78, 79, 76, 79, 79, 80]⟩] 9)) = w5 at *
          generalize hgg : w4.heap.size = g at *
          clear hgg
          have HLw : Hid (∀ W, Below w5.heap.size w5 W → ∀ j (hj : j < (wds false).length), W.cell? ⟨g, j, none⟩ = some (.string (wds false)[j])) := Lib.hid (fun W hW j hj => by
            rw [(HW5.out.below hW).c j (by rw [wds_len] at hj; simpa using hj)]
            match j, hj with
            | 0, _ => rfl
            | 1, _ => rfl
            | 2, _ => rfl
            | 3, _ => rfl
            | 4, _ => rfl)
          have x0 := HD5.out.at 0 rfl
          have x1 := HD5.out.at 1 rfl
          have x2 := HD5.out.at 2 rfl
          have x3 := HD5.out.at 3 rfl
          have x4 := HD5.out.at 4 rfl
          have x5 := HD5.out.at 5 rfl
          have x6 := HD5.out.at 6 rfl
          have l0 : w5.cell? ⟨g, 0, none⟩ = some (.string ⟨#[79, 78]⟩) := HLw.out w5 (Below.refl _ _) 0 (by rw [wds_len]; omega)
          have H6 : Hid (Hp w5 (w5.alloc (.cells #[.string ⟨#[79, 78]⟩] 9)) [rowST (.slice (some ⟨w5.heap.size, 0, none⟩) 1 1) [onW false]]) := Lib.hid (rowS_H (rowS_one2 w5 _ rfl (onW false)))
          go_upto_region 12 with fail
          clear l0 x0 x1 x2 x3 x4 x5 x6
          generalize (w5.alloc (.cells #[.string ⟨#[79, 78]⟩] 9)) = w6 at *
          generalize (Value.slice (some ⟨w5.heap.size, 0, none⟩) 1 1) = v6 at *
          have Y1 : Hid (w6.cell? ⟨b1, 1, none⟩ = some (.bool bc) ∧ w6.cell? ⟨b1, 2, none⟩ = some (.bool oi) ∧ w6.cell? ⟨b1, 3, none⟩ = some (.bool oo) ∧ w6.cell? ⟨b1, 4, none⟩ = some (.bool nl)) := Lib.hid ⟨(HD5.out.below H6.out.below).at 1 rfl, (HD5.out.below H6.out.below).at 2 rfl, (HD5.out.below H6.out.below).at 3 rfl, (HD5.out.below H6.out.below).at 4 rfl⟩
          have YA : Hid (∀ O, (w6.alloc O).cell? ⟨b1, 1, none⟩ = some (.bool bc) ∧ (w6.alloc O).cell? ⟨b1, 2, none⟩ = some (.bool oi) ∧ (w6.alloc O).cell? ⟨b1, 3, none⟩ = some (.bool oo) ∧ (w6.alloc O).cell? ⟨b1, 4, none⟩ = some (.bool nl)) := Lib.hid (fun O => by
            have h := HD5.out.below (bstep H6.out.below (bbox (w := w6) O))
            exact ⟨h.at 1 rfl, h.at 2 rfl, h.at 3 rfl, h.at 4 rfl⟩)
          go_region_held3 (fun W : World => W.cell? ⟨b1, 1, none⟩ = some (.bool bc) ∧ W.cell? ⟨b1, 2, none⟩ = some (.bool oi) ∧ W.cell? ⟨b1, 3, none⟩ = some (.bool oo) ∧ W.cell? ⟨b1, 4, none⟩ = some (.bool nl))
            (first | exact Y1.out | exact YA.out _)
            (first
              | (go_at_call 20; with_reducible refine (HBt.out _ _).mono ?_; rintro en8 w9 ⟨rfl, rfl⟩))
          have H7 : Hid (Hp w5 (w6.alloc (.cells #[.int .i64 (bi bc), .int .i64 (bi oi), .int .i64 (bi oo), .int .i64 (bi nl)] 3)).drew [rowST v6 (onW false :: holds (Bs.take 0)), cellsT w6.heap.size [.int .i64 (bi bc), .int .i64 (bi oi), .int .i64 (bi oo), .int .i64 (bi nl)]]) := Lib.hid (((H6.out.cellsNew [.int .i64 (bi bc), .int .i64 (bi oi), .int .i64 (bi oo), .int .i64 (bi nl)] 3).bel ((Below.refl _ _).drew)).pull 1 rfl)
          clear Y1 YA H6
          go_wp2_with fail
          generalize (w6.alloc (.cells #[.int .i64 (bi bc), .int .i64 (bi oi), .int .i64 (bi oo), .int .i64 (bi nl)] 3)).drew = w8 at *
          generalize w6.heap.size = G at *
          go_loopg [8, 9, 10, 59] 5 (fun gg s8 _ _ s59 wr => ∃ j : Nat, s59 = .int .i64 j ∧ j ≤ 4 ∧ 4 - j ≤ gg ∧ Hid (Hp w5 wr [rowST s8 (onW false :: holds (Bs.take j)), cellsT G [.int .i64 (bi bc), .int .i64 (bi oi), .int .i64 (bi oo), .int .i64 (bi nl)]]))
          case atStart => exact ⟨0, rfl, by omega, by omega, H7⟩
          case round =>
            obtain ⟨j, rfl, hj, hg, HR⟩ := hrel
            by_cases hjl : j < 4
            case pos =>
              have hjc : (j : Int) < 4 := by omega
              have hjF : j < Bs.length := by rw [HB4.out]; exact hjl
              have c0 := (HR.out.pull 1 rfl).cell j (HBit.out j hjF)
              have d0 := HLw.out _ HR.out.below (j + 1) (by rw [wds_len]; omega)
              rw [HWd.out j hjF _] at d0
              have HT := Lib.hid (holds_take hjF)
              have HLe : Hid ((onW false :: holds (Bs.take j)).length ≤ 1000000) := Lib.hid (by have := holds_len (Bs.take j); have := List.length_take_le j Bs; have := HB4.out; simp; omega)
              generalize Bs[j] = q at *
              obtain ⟨y, hb⟩ := q
              have HT : Hid (holds (Bs.take (j + 1)) = holds (Bs.take j) ++ (if hb then [y] else [])) := HT
              have hw1 : IntKind.i64.wrap ((j : Int) + 1) = (j : Int) + 1 := by rw [IntKind.wrap_i64]; omega
              have hj5 : (j : Int) + 1 < 5 := by omega
              have hj0 : (0 : Int) ≤ (j : Int) + 1 := by omega
              cases hb with
              | false =>
                have c0 : wr.cell? ⟨G, j, none⟩ = some (.int .i64 0) := c0
                have HZ : Hid (Hp w5 wr [rowST u8 (onW false :: holds (Bs.take (j + 1))), cellsT G [.int .i64 (bi bc), .int .i64 (bi oi), .int .i64 (bi oo), .int .i64 (bi nl)]]) := Lib.hid (by rw [HT.out]; simpa using HR.out)
                go_wp2_with fail
                go_roundg (gk - 1)
                case measure => omega
                case rel => exact ⟨j + 1, by go_num, by omega, by omega, HZ⟩
              | true =>
                have c0 : wr.cell? ⟨G, j, none⟩ = some (.int .i64 1) := c0
                have d0 : wr.cell? ⟨g, j + 1, none⟩ = some (.string y) := d0
                have HZ : Hid (holds (Bs.take j) ++ [y] = holds (Bs.take (j + 1))) := Lib.hid (by rw [HT.out]; rfl)
                go_wp2_with (at_builtin; refine pushH HR.out (bbox _) rfl _ _ rfl rfl y _ rfl ?_ HLe.out ?_)
                all_goals try (rw [World.cell?_alloc_new]; rfl; done)
                all_goals
                  intro v5 w9 hR5
                  have HR5 := Lib.hid hR5
                  rw [HZ.out] at HR5
                  clear hR5
                  go_wp2_with fail
                  go_roundg (gk - 1)
                  case measure => omega
                  case rel => exact ⟨j + 1, by go_num, by omega, by omega, HR5⟩
            case neg =>
              have hjc : ¬ (j : Int) < 4 := by omega
              obtain rfl : j = Bs.length := by have := HB4.out; omega
              rw [List.take_length] at HR
              have HR0 : Hid (Hp w5 wr [rowST u8 (onW false :: (holds Bs ++ pw (ps.drop ps.length).reverse)), cellsT G [.int .i64 (bi bc), .int .i64 (bi oi), .int .i64 (bi oo), .int .i64 (bi nl)]]) := Lib.hid (by
                rw [List.drop_length]
                simpa [pw] using HR.out)
              have HDr := Lib.hid (HD5.out.below HR.out.below)
              have x6 := HDr.out.at 6 rfl
              have hwn : IntKind.i64.wrap ((ps.length : Int) - 1) = (ps.length : Int) - 1 := by rw [IntKind.wrap_i64]; omega
              obtain ⟨n, hn⟩ : ∃ n, ps.length = n := ⟨_, rfl⟩
              have HN := Lib.hid hn
              rw [hn] at x6 hwn hps HR0 ⊢
              clear HR hn
              go_wp2_with fail
              clear x6 HDr
              go_loopg [8, 11] (n + 1) (fun gg s8 s11 wr2 => ∃ (z : Int) (k : Nat), s11 = .int .i64 z ∧ z = (k : Int) - 1 ∧ k ≤ n ∧ k ≤ gg ∧ Hid (Hp w5 wr2 [rowST s8 (onW false :: (holds Bs ++ pw (ps.drop k).reverse)), cellsT G [.int .i64 (bi bc), .int .i64 (bi oi), .int .i64 (bi oo), .int .i64 (bi nl)]]))
              case atStart => exact ⟨_, n, rfl, rfl, by omega, by omega, HR0⟩
              case round =>
                obtain ⟨z, k, rfl, hz, hk, hg2, HR2⟩ := hrel
                have HDr := Lib.hid (HD5.out.below HR2.out.below)
                have HBr := Lib.hid (bstep HBB5.out HR2.out.below)
                cases k with
                | zero =>
                  obtain rfl : z = -1 := by omega
                  clear hz
                  have HR3 : Hid (Hp w5 wr [rowST u8 (onW false :: (holds Bs ++ pw ps.reverse)), cellsT G [.int .i64 (bi bc), .int .i64 (bi oi), .int .i64 (bi oo), .int .i64 (bi nl)]]) := HR2
                  have HRow := Lib.hid (rowS_of' HR3.out)
                  obtain ⟨WL, hWL⟩ : ∃ WL, onW false :: (holds Bs ++ pw ps.reverse) = WL := ⟨_, rfl⟩
                  have hWn : WL.length ≤ 1000 := by
                    have h1 := holds_len Bs; have h2 := HB4.out; have h3 := pw_len ps.reverse; rw [List.length_reverse] at h3
                    have := HN.out
                    rw [← hWL]; simp; omega
                  rw [hWL] at HRow HPw HSw
                  obtain ⟨ra, rc, rfl, hr1, hr2, -, hrI⟩ := HRow.out.slice
                  have HP2 := Lib.hid (parse_calls wr ra WL.length rc WL (HX.out.below HBr.out) hrI rfl hr1 hr2 hWn HSw.out _ _ HPw.out)
                  clear HR3 HR2 hrI hWL
                  go_wp2_with fail
                  refine HP2.out.mono ?_
                  rintro e w6 ⟨v, rfl, hR⟩
                  obtain ⟨qa, qc, rfl, -, -, -, hI6⟩ := hR.slice
                  have HI6 := Lib.hid hI6
                  have HD6 := Lib.hid (HDr.out.below hR.bel)
                  have HB6 := Lib.hid (bstep HBr.out hR.bel)
                  clear hR hI6 HP2 HDr HBr HRow
                  simp only [mVv]
                  go_upto_region 23 with fail
                  have HE6 := Lib.hid (CellL.new w6 [.bool true, .bool bc, .bool oi, .bool oo, .bool nl, .int .i64 0, .slice qa ps.length qc] 24)
                  have HD7 := Lib.hid (HD6.out.below (bbox (w := w6) (.cells #[.bool true, .bool bc, .bool oi, .bool oo, .bool nl, .int .i64 0, .slice qa ps.length qc] 24)))
                  have HB7 := Lib.hid (bstep HB6.out (bbox (w := w6) (.cells #[.bool true, .bool bc, .bool oi, .bool oo, .bool nl, .int .i64 0, .slice qa ps.length qc] 24)))
                  have HI7 := Lib.hid (HI6.out.bel (bbox (w := w6) (.cells #[.bool true, .bool bc, .bool oi, .bool oo, .bool nl, .int .i64 0, .slice qa ps.length qc] 24)))
                  have HE6 : Hid (CellL (w6.alloc (.cells #[.bool true, .bool bc, .bool oi, .bool oo, .bool nl, .int .i64 0, .slice qa ps.length qc] 24)) w6.heap.size [.bool true, .bool bc, .bool oi, .bool oo, .bool nl, .int .i64 0, .slice qa ps.length qc]) := HE6
                  have hlt6 : b1 < w6.heap.size := HD6.out.lt
                  have HQ : Hid (w.heap.size ≤ w6.heap.size) := Lib.hid HB6.out.size
                  have HI8 : Hid (0 < ps.length → ∃ B o, qa = some ⟨B, o, none⟩ ∧ B < w6.heap.size ∧ B < (w6.alloc (.cells #[.bool true, .bool bc, .bool oi, .bool oo, .bool nl, .int .i64 0, .slice qa ps.length qc] 24)).heap.size ∧ ∀ i (h : i < ps.length), (w6.alloc (.cells #[.bool true, .bool bc, .bool oi, .bool oo, .bool nl, .int .i64 0, .slice qa ps.length qc] 24)).cell? ⟨B, o + i, none⟩ = some (.string ps[i])) := Lib.hid (fun hp => by
                    obtain ⟨B, o, e, hlt, hc⟩ := HI6.out hp
                    exact ⟨B, o, e, hlt, by simp; omega, fun i hi => ((bbox (w := w6) _).cell (p := ⟨B, o + i, none⟩) hlt).trans (hc i hi)⟩)
                  clear HD6 HB6 HI6
                  generalize (w6.alloc (.cells #[.bool true, .bool bc, .bool oi, .bool oo, .bool nl, .int .i64 0, .slice qa ps.length qc] 24)) = w7 at *
                  generalize w6.heap.size = b7 at *
                  have x5 := HD7.out.at 5 rfl
                  have y5 := HE6.out.at 5 rfl
                  have f5 := HE6.out.f 5 (by simp)
                  have HE8 : Hid (CellL (w7.setCell ⟨b7, 5, none⟩ (.int .i64 rd)) b7 [.bool true, .bool bc, .bool oi, .bool oo, .bool nl, .int .i64 rd, .slice qa ps.length qc]) := Lib.hid (HE6.out.set 5 (.int .i64 rd))
                  have HD8 := Lib.hid (HD7.out.other (b' := b7) (by omega) 5 (.int .i64 rd))
                  have HB8 : Hid (Below w.heap.size w (w7.setCell ⟨b7, 5, none⟩ (.int .i64 rd))) := Lib.hid (HB7.out.setCell (p := ⟨b7, 5, none⟩) HQ.out (.int .i64 rd))
                  have HI9 : Hid (InS (w7.setCell ⟨b7, 5, none⟩ (.int .i64 rd)) qa ps) := Lib.hid (fun hp => by
                    obtain ⟨B, o, e, hlt, hlt2, hc⟩ := HI8.out hp
                    refine ⟨B, o, e, by simpa [World.setCell] using hlt2, fun i hi => (World.cell?_setCell_other _ _ _ _ fun h => ?_).trans (hc i hi)⟩
                    injection h with h1 h2
                    omega)
                  clear HI8 HI7
                  go_upto_region 24 with fail
                  clear x5 y5 f5
                  generalize w7.setCell ⟨b7, 5, none⟩ (.int .i64 rd) = w8 at *
                  have HSm : Hid (Calls Tryd.prog 18 #[.agg #[.bool true, .bool bc, .bool oi, .bool oo, .bool nl, .int .i64 rd, .slice qa ps.length qc], .agg #[.bool true, .bool bc, .bool oi, .bool oo, .bool nl, .int .i64 rd, .slice a ps.length c]] w8 fun e w' => e = .returned (.bool true) ∧ Below w8.heap.size w8 w') := Lib.hid (same_calls w8 ⟨true, bc, oi, oo, nl, rd, ps⟩ ⟨true, bc, oi, oo, nl, rd, ps⟩ qa a qc c HI9.out (HIa.out _ HB8.out) (by have := HN.out; simp only; omega) (by have := HN.out; simp only; omega) true ⟨fun _ => rfl, fun _ => rfl⟩)
                  have HE8 : Hid (CellL w8 b7 [.bool true, .bool bc, .bool oi, .bool oo, .bool nl, .int .i64 rd, .slice qa ps.length qc]) := HE8
                  have x0 := HE8.out.at 0 rfl
                  have y0 := HD8.out.at 0 rfl
                  have x1 := HE8.out.at 1 rfl
                  have y1 := HD8.out.at 1 rfl
                  have x2 := HE8.out.at 2 rfl
                  have y2 := HD8.out.at 2 rfl
                  have x3 := HE8.out.at 3 rfl
                  have y3 := HD8.out.at 3 rfl
                  have x4 := HE8.out.at 4 rfl
                  have y4 := HD8.out.at 4 rfl
                  have x5 := HE8.out.at 5 rfl
                  have y5 := HD8.out.at 5 rfl
                  have x6 := HE8.out.at 6 rfl
                  have y6 := HD8.out.at 6 rfl
                  go_wp2_with fail
                  refine HSm.out.mono ?_
                  rintro e w9 ⟨rfl, hb9⟩
                  have HB9 := Lib.hid (bstep HB8.out hb9)
                  clear hb9
                  go_wp2_with fail
                  go_ret
                  exact ⟨by first | rfl | simp, HB9.out⟩
                | succ k =>
                  obtain rfl : z = (k : Int) := by omega
                  clear hz
                  have hkn : k < ps.length := by have := HN.out; omega
                  have hkc : (k : Int) < (n : Int) := by omega
                  have hk0 : (0 : Int) ≤ (k : Int) := by omega
                  have x6 := HDr.out.at 6 rfl
                  obtain ⟨B, o, rfl, -, hcell⟩ := HIa.out _ HBr.out (by omega)
                  have c0 := hcell k hkn
                  have HT : Hid (pw (ps.drop k).reverse = pw (ps.drop (k + 1)).reverse ++ [preW, ps[k]]) := Lib.hid (by rw [List.drop_eq_getElem_cons hkn, List.reverse_cons, pw_snoc])
                  have HLe : Hid ((onW false :: (holds Bs ++ pw (ps.drop (k + 1)).reverse)).length ≤ 1000000) := Lib.hid (by have h1 := holds_len Bs; have h2 := HB4.out; have h3 := pw_len (ps.drop (k + 1)).reverse; rw [List.length_reverse, List.length_drop] at h3; have := HN.out; simp; omega)
                  clear hcell
                  generalize ps[k] = y at *
                  have hwk : IntKind.i64.wrap ((k : Int) - 1) = (k : Int) - 1 := by rw [IntKind.wrap_i64]; omega
                  have HL2 : Hid ((onW false :: (holds Bs ++ pw (ps.drop (k + 1)).reverse)) ++ [preW, y] = onW false :: (holds Bs ++ pw (ps.drop k).reverse)) := Lib.hid (by rw [HT.out]; simp)
                  go_wp2_with (at_builtin; refine pushHs HR2.out (bbox _) rfl _ _ rfl rfl [preW, y] _ _ rfl rfl ?_ HLe.out (by simp) ?_)
                  · intro j hj
                    rw [World.cell?_alloc_new]
                    match j, hj with
                    | 0, _ => rfl
                    | 1, _ => rfl
                  · intro v5 w9 hR5
                    have HR5 : Hid (Hp w5 w9 [rowST v5 (onW false :: (holds Bs ++ pw (ps.drop k).reverse)), cellsT G [.int .i64 (bi bc), .int .i64 (bi oi), .int .i64 (bi oo), .int .i64 (bi nl)]]) := Lib.hid (by rw [HT.out]; simpa using hR5)
                    clear hR5 x6 c0
                    go_wp2_with fail
                    go_roundg (gk - 1)
                    case measure => omega
                    case rel => exact ⟨_, k, rfl, rfl, by omega, by omega, HR5⟩
        | true =>
          have hb := bstep (bbox (w := w4) (.cells #[.string ⟨#[79, 78]⟩, .string ⟨#[66, 67, 65, 83, 84]⟩, .string ⟨#[79, 80, 84, 73, 78]⟩, .string ⟨#[79, 80, 84, 79, 85, 84]⟩, .string ⟨#[78, 79, 76, 79, 79, 80]⟩] 9)) (bbox (.cells #[.string ⟨#[111, 110]⟩, .string ⟨#[98, 99, 97, 115, 116]⟩, .string ⟨#[111, 112, 116, 105, 110]⟩, .string ⟨#[111, 112, 116, 111, 117, 116]⟩, .string ⟨#[110, 111, 108, 111, 111, 112]⟩] 9))
          have HW5 := Lib.hid (CellL.new2 (w4.alloc (.cells #[.string ⟨#[79, 78]⟩, .string ⟨#[66, 67, 65, 83, 84]⟩, .string ⟨#[79, 80, 84, 73, 78]⟩, .string ⟨#[79, 80, 84, 79, 85, 84]⟩, .string ⟨#[78, 79, 76, 79, 79, 80]⟩] 9)) (w4.heap.size + 1) (by simp) [.string ⟨#[111, 110]⟩, .string ⟨#[98, 99, 97, 115, 116]⟩, .string ⟨#[111, 112, 116, 105, 110]⟩, .string ⟨#[111, 112, 116, 111, 117, 116]⟩, .string ⟨#[110, 111, 108, 111, 111, 112]⟩] 9)
          have HD5 := Lib.hid (HD4.out.below hb)
          have HBB5 := Lib.hid (bstep HBB4.out hb)
          clear hb HD4 HBB4
          go_upto_region 8 with fail
          have HW5 : Hid (CellL ((w4.alloc (.cells #[.string ⟨#[79, 78]⟩, .string ⟨#[66, 67, 65, 83, 84]⟩, .string ⟨#[79, 80, 84, 73, 78]⟩, .string ⟨#[79, 80, 84, 79, 85, 84]⟩, .string ⟨#[78, 79, 76, 79, 79, 80]⟩] 9)).alloc (.cells #[.string ⟨#[111, 110]⟩, .string ⟨#[98, 99, 97, 115, 116]⟩, .string ⟨#[111, 112, 116, 105, 110]⟩, .string ⟨#[111, 112, 116, 111, 117, 116]⟩, .string ⟨#[110, 111, 108, 111, 111, 112]⟩] 9)) (w4.heap.size + 1) [.string ⟨#[111, 110]⟩, .string ⟨#[98, 99, 97, 115, 116]⟩, .string ⟨#[111, 112, 116, 105, 110]⟩, .string ⟨#[111, 112, 116, 111, 117, 116]⟩, .string ⟨#[110, 111, 108, 111, 111, 112]⟩]) := HW5
          have HD5 : Hid (CellL ((w4.alloc (.cells #[.string ⟨#[79, 78]⟩, .string ⟨#[66, 67, 65, 83, 84]⟩, .string ⟨#[79, 80, 84, 73, 78]⟩, .string ⟨#[79, 80, 84, 79, 85, 84]⟩, .string ⟨#[78, 79, 76, 79, 79, 80]⟩] 9)).alloc (.cells #[.string ⟨#[111, 110]⟩, .string ⟨#[98, 99, 97, 115, 116]⟩, .string ⟨#[111, 112, 116, 105, 110]⟩, .string ⟨#[111, 112, 116, 111, 117, 116]⟩, .string ⟨#[110, 111, 108, 111, 111, 112]⟩] 9)) b1 [.bool true, .bool bc, .bool oi, .bool oo, .bool nl, .int .i64 rd, .slice a ps.length c]) := HD5
          have HBB5 : Hid (Below w.heap.size w ((w4.alloc (.cells #[.string ⟨#[79, 78]⟩, .string ⟨#[66, 67, 65, 83, 84]⟩, .string ⟨#[79, 80, 84, 73, 78]⟩, .string ⟨#[79, 80, 84, 79, 85, 84]⟩, .string ⟨#[78, 79, 76, 79, 79, 80]⟩] 9)).alloc (.cells #[.string ⟨#[111, 110]⟩, .string ⟨#[98, 99, 97, 115, 116]⟩, .string ⟨#[111, 112, 116, 105, 110]⟩, .string ⟨#[111, 112, 116, 111, 117, 116]⟩, .string ⟨#[110, 111, 108, 111, 111, 112]⟩] 9))) := HBB5
          generalize ((w4.alloc (.cells #[.string ⟨#[79, 78]⟩, .string ⟨#[66, 67, 65, 83, 84]⟩, .string ⟨#[79, 80, 84, 73, 78]⟩, .string ⟨#[79, 80, 84, 79, 85, 84]⟩, .string ⟨#[78, 79, 76, 79, 79, 80]⟩] 9)).alloc (.cells #[.string ⟨#[111, 110]⟩, .string ⟨#[98, 99, 97, 115, 116]⟩, .string ⟨#[111, 112, 116, 105, 110]⟩, .string ⟨#[111, 112, 116, 111, 117, 116]⟩, .string ⟨#[110, 111, 108, 111, 111, 112]⟩] 9)) = w5 at *
          generalize hgg : w4.heap.size + 1 = g at *
          clear hgg
          have HLw : Hid (∀ W, Below w5.heap.size w5 W → ∀ j (hj : j < (wds true).length), W.cell? ⟨g, j, none⟩ = some (.string (wds true)[j])) := Lib.hid (fun W hW j hj => by
            rw [(HW5.out.below hW).c j (by rw [wds_len] at hj; simpa using hj)]
            match j, hj with
            | 0, _ => rfl
            | 1, _ => rfl
            | 2, _ => rfl
            | 3, _ => rfl
            | 4, _ => rfl)
          have x0 := HD5.out.at 0 rfl
          have x1 := HD5.out.at 1 rfl
          have x2 := HD5.out.at 2 rfl
          have x3 := HD5.out.at 3 rfl
          have x4 := HD5.out.at 4 rfl
          have x5 := HD5.out.at 5 rfl
          have x6 := HD5.out.at 6 rfl
          have l0 : w5.cell? ⟨g, 0, none⟩ = some (.string ⟨#[111, 110]⟩) := HLw.out w5 (Below.refl _ _) 0 (by rw [wds_len]; omega)
          have H6 : Hid (Hp w5 (w5.alloc (.cells #[.string ⟨#[111, 110]⟩] 9)) [rowST (.slice (some ⟨w5.heap.size, 0, none⟩) 1 1) [onW true]]) := Lib.hid (rowS_H (rowS_one2 w5 _ rfl (onW true)))
          go_upto_region 12 with fail
          clear l0 x0 x1 x2 x3 x4 x5 x6
          generalize (w5.alloc (.cells #[.string ⟨#[111, 110]⟩] 9)) = w6 at *
          generalize (Value.slice (some ⟨w5.heap.size, 0, none⟩) 1 1) = v6 at *
          have Y1 : Hid (w6.cell? ⟨b1, 1, none⟩ = some (.bool bc) ∧ w6.cell? ⟨b1, 2, none⟩ = some (.bool oi) ∧ w6.cell? ⟨b1, 3, none⟩ = some (.bool oo) ∧ w6.cell? ⟨b1, 4, none⟩ = some (.bool nl)) := Lib.hid ⟨(HD5.out.below H6.out.below).at 1 rfl, (HD5.out.below H6.out.below).at 2 rfl, (HD5.out.below H6.out.below).at 3 rfl, (HD5.out.below H6.out.below).at 4 rfl⟩
          have YA : Hid (∀ O, (w6.alloc O).cell? ⟨b1, 1, none⟩ = some (.bool bc) ∧ (w6.alloc O).cell? ⟨b1, 2, none⟩ = some (.bool oi) ∧ (w6.alloc O).cell? ⟨b1, 3, none⟩ = some (.bool oo) ∧ (w6.alloc O).cell? ⟨b1, 4, none⟩ = some (.bool nl)) := Lib.hid (fun O => by
            have h := HD5.out.below (bstep H6.out.below (bbox (w := w6) O))
            exact ⟨h.at 1 rfl, h.at 2 rfl, h.at 3 rfl, h.at 4 rfl⟩)
          go_region_held3 (fun W : World => W.cell? ⟨b1, 1, none⟩ = some (.bool bc) ∧ W.cell? ⟨b1, 2, none⟩ = some (.bool oi) ∧ W.cell? ⟨b1, 3, none⟩ = some (.bool oo) ∧ W.cell? ⟨b1, 4, none⟩ = some (.bool nl))
            (first | exact Y1.out | exact YA.out _)
            (first
              | (go_at_call 20; with_reducible refine (HBt.out _ _).mono ?_; rintro en8 w9 ⟨rfl, rfl⟩))
          have H7 : Hid (Hp w5 (w6.alloc (.cells #[.int .i64 (bi bc), .int .i64 (bi oi), .int .i64 (bi oo), .int .i64 (bi nl)] 3)).drew [rowST v6 (onW true :: holds (Bs.take 0)), cellsT w6.heap.size [.int .i64 (bi bc), .int .i64 (bi oi), .int .i64 (bi oo), .int .i64 (bi nl)]]) := Lib.hid (((H6.out.cellsNew [.int .i64 (bi bc), .int .i64 (bi oi), .int .i64 (bi oo), .int .i64 (bi nl)] 3).bel ((Below.refl _ _).drew)).pull 1 rfl)
          clear Y1 YA H6
          go_wp2_with fail
          generalize (w6.alloc (.cells #[.int .i64 (bi bc), .int .i64 (bi oi), .int .i64 (bi oo), .int .i64 (bi nl)] 3)).drew = w8 at *
          generalize w6.heap.size = G at *
          go_loopg [8, 9, 10, 59] 5 (fun gg s8 _ _ s59 wr => ∃ j : Nat, s59 = .int .i64 j ∧ j ≤ 4 ∧ 4 - j ≤ gg ∧ Hid (Hp w5 wr [rowST s8 (onW true :: holds (Bs.take j)), cellsT G [.int .i64 (bi bc), .int .i64 (bi oi), .int .i64 (bi oo), .int .i64 (bi nl)]]))
          case atStart => exact ⟨0, rfl, by omega, by omega, H7⟩
          case round =>
            obtain ⟨j, rfl, hj, hg, HR⟩ := hrel
            by_cases hjl : j < 4
            case pos =>
              have hjc : (j : Int) < 4 := by omega
              have hjF : j < Bs.length := by rw [HB4.out]; exact hjl
              have c0 := (HR.out.pull 1 rfl).cell j (HBit.out j hjF)
              have d0 := HLw.out _ HR.out.below (j + 1) (by rw [wds_len]; omega)
              rw [HWd.out j hjF _] at d0
              have HT := Lib.hid (holds_take hjF)
              have HLe : Hid ((onW true :: holds (Bs.take j)).length ≤ 1000000) := Lib.hid (by have := holds_len (Bs.take j); have := List.length_take_le j Bs; have := HB4.out; simp; omega)
              generalize Bs[j] = q at *
              obtain ⟨y, hb⟩ := q
              have HT : Hid (holds (Bs.take (j + 1)) = holds (Bs.take j) ++ (if hb then [y] else [])) := HT
              have hw1 : IntKind.i64.wrap ((j : Int) + 1) = (j : Int) + 1 := by rw [IntKind.wrap_i64]; omega
              have hj5 : (j : Int) + 1 < 5 := by omega
              have hj0 : (0 : Int) ≤ (j : Int) + 1 := by omega
              cases hb with
              | false =>
                have c0 : wr.cell? ⟨G, j, none⟩ = some (.int .i64 0) := c0
                have HZ : Hid (Hp w5 wr [rowST u8 (onW true :: holds (Bs.take (j + 1))), cellsT G [.int .i64 (bi bc), .int .i64 (bi oi), .int .i64 (bi oo), .int .i64 (bi nl)]]) := Lib.hid (by rw [HT.out]; simpa using HR.out)
                go_wp2_with fail
                go_roundg (gk - 1)
                case measure => omega
                case rel => exact ⟨j + 1, by go_num, by omega, by omega, HZ⟩
              | true =>
                have c0 : wr.cell? ⟨G, j, none⟩ = some (.int .i64 1) := c0
                have d0 : wr.cell? ⟨g, j + 1, none⟩ = some (.string y) := d0
                have HZ : Hid (holds (Bs.take j) ++ [y] = holds (Bs.take (j + 1))) := Lib.hid (by rw [HT.out]; rfl)
                go_wp2_with (at_builtin; refine pushH HR.out (bbox _) rfl _ _ rfl rfl y _ rfl ?_ HLe.out ?_)
                all_goals try (rw [World.cell?_alloc_new]; rfl; done)
                all_goals
                  intro v5 w9 hR5
                  have HR5 := Lib.hid hR5
                  rw [HZ.out] at HR5
                  clear hR5
                  go_wp2_with fail
                  go_roundg (gk - 1)
                  case measure => omega
                  case rel => exact ⟨j + 1, by go_num, by omega, by omega, HR5⟩
            case neg =>
              have hjc : ¬ (j : Int) < 4 := by omega
              obtain rfl : j = Bs.length := by have := HB4.out; omega
              rw [List.take_length] at HR
              have HR0 : Hid (Hp w5 wr [rowST u8 (onW true :: (holds Bs ++ pw (ps.drop ps.length).reverse)), cellsT G [.int .i64 (bi bc), .int .i64 (bi oi), .int .i64 (bi oo), .int .i64 (bi nl)]]) := Lib.hid (by
                rw [List.drop_length]
                simpa [pw] using HR.out)
              have HDr := Lib.hid (HD5.out.below HR.out.below)
              have x6 := HDr.out.at 6 rfl
              have hwn : IntKind.i64.wrap ((ps.length : Int) - 1) = (ps.length : Int) - 1 := by rw [IntKind.wrap_i64]; omega
              obtain ⟨n, hn⟩ : ∃ n, ps.length = n := ⟨_, rfl⟩
              have HN := Lib.hid hn
              rw [hn] at x6 hwn hps HR0 ⊢
              clear HR hn
              go_wp2_with fail
              clear x6 HDr
              go_loopg [8, 11] (n + 1) (fun gg s8 s11 wr2 => ∃ (z : Int) (k : Nat), s11 = .int .i64 z ∧ z = (k : Int) - 1 ∧ k ≤ n ∧ k ≤ gg ∧ Hid (Hp w5 wr2 [rowST s8 (onW true :: (holds Bs ++ pw (ps.drop k).reverse)), cellsT G [.int .i64 (bi bc), .int .i64 (bi oi), .int .i64 (bi oo), .int .i64 (bi nl)]]))
              case atStart => exact ⟨_, n, rfl, rfl, by omega, by omega, HR0⟩
              case round =>
                obtain ⟨z, k, rfl, hz, hk, hg2, HR2⟩ := hrel
                have HDr := Lib.hid (HD5.out.below HR2.out.below)
                have HBr := Lib.hid (bstep HBB5.out HR2.out.below)
                cases k with
                | zero =>
                  obtain rfl : z = -1 := by omega
                  clear hz
                  have HR3 : Hid (Hp w5 wr [rowST u8 (onW true :: (holds Bs ++ pw ps.reverse)), cellsT G [.int .i64 (bi bc), .int .i64 (bi oi), .int .i64 (bi oo), .int .i64 (bi nl)]]) := HR2
                  have HRow := Lib.hid (rowS_of' HR3.out)
                  obtain ⟨WL, hWL⟩ : ∃ WL, onW true :: (holds Bs ++ pw ps.reverse) = WL := ⟨_, rfl⟩
                  have hWn : WL.length ≤ 1000 := by
                    have h1 := holds_len Bs; have h2 := HB4.out; have h3 := pw_len ps.reverse; rw [List.length_reverse] at h3
                    have := HN.out
                    rw [← hWL]; simp; omega
                  rw [hWL] at HRow HPw HSw
                  obtain ⟨ra, rc, rfl, hr1, hr2, -, hrI⟩ := HRow.out.slice
                  have HP2 := Lib.hid (parse_calls wr ra WL.length rc WL (HX.out.below HBr.out) hrI rfl hr1 hr2 hWn HSw.out _ _ HPw.out)
                  clear HR3 HR2 hrI hWL
                  go_wp2_with fail
                  refine HP2.out.mono ?_
                  rintro e w6 ⟨v, rfl, hR⟩
                  obtain ⟨qa, qc, rfl, -, -, -, hI6⟩ := hR.slice
                  have HI6 := Lib.hid hI6
                  have HD6 := Lib.hid (HDr.out.below hR.bel)
                  have HB6 := Lib.hid (bstep HBr.out hR.bel)
                  clear hR hI6 HP2 HDr HBr HRow
                  simp only [mVv]
                  go_upto_region 23 with fail
                  have HE6 := Lib.hid (CellL.new w6 [.bool true, .bool bc, .bool oi, .bool oo, .bool nl, .int .i64 0, .slice qa ps.length qc] 24)
                  have HD7 := Lib.hid (HD6.out.below (bbox (w := w6) (.cells #[.bool true, .bool bc, .bool oi, .bool oo, .bool nl, .int .i64 0, .slice qa ps.length qc] 24)))
                  have HB7 := Lib.hid (bstep HB6.out (bbox (w := w6) (.cells #[.bool true, .bool bc, .bool oi, .bool oo, .bool nl, .int .i64 0, .slice qa ps.length qc] 24)))
                  have HI7 := Lib.hid (HI6.out.bel (bbox (w := w6) (.cells #[.bool true, .bool bc, .bool oi, .bool oo, .bool nl, .int .i64 0, .slice qa ps.length qc] 24)))
                  have HE6 : Hid (CellL (w6.alloc (.cells #[.bool true, .bool bc, .bool oi, .bool oo, .bool nl, .int .i64 0, .slice qa ps.length qc] 24)) w6.heap.size [.bool true, .bool bc, .bool oi, .bool oo, .bool nl, .int .i64 0, .slice qa ps.length qc]) := HE6
                  have hlt6 : b1 < w6.heap.size := HD6.out.lt
                  have HQ : Hid (w.heap.size ≤ w6.heap.size) := Lib.hid HB6.out.size
                  have HI8 : Hid (0 < ps.length → ∃ B o, qa = some ⟨B, o, none⟩ ∧ B < w6.heap.size ∧ B < (w6.alloc (.cells #[.bool true, .bool bc, .bool oi, .bool oo, .bool nl, .int .i64 0, .slice qa ps.length qc] 24)).heap.size ∧ ∀ i (h : i < ps.length), (w6.alloc (.cells #[.bool true, .bool bc, .bool oi, .bool oo, .bool nl, .int .i64 0, .slice qa ps.length qc] 24)).cell? ⟨B, o + i, none⟩ = some (.string ps[i])) := Lib.hid (fun hp => by
                    obtain ⟨B, o, e, hlt, hc⟩ := HI6.out hp
                    exact ⟨B, o, e, hlt, by simp; omega, fun i hi => ((bbox (w := w6) _).cell (p := ⟨B, o + i, none⟩) hlt).trans (hc i hi)⟩)
                  clear HD6 HB6 HI6
                  generalize (w6.alloc (.cells #[.bool true, .bool bc, .bool oi, .bool oo, .bool nl, .int .i64 0, .slice qa ps.length qc] 24)) = w7 at *
                  generalize w6.heap.size = b7 at *
                  have x5 := HD7.out.at 5 rfl
                  have y5 := HE6.out.at 5 rfl
                  have f5 := HE6.out.f 5 (by simp)
                  have HE8 : Hid (CellL (w7.setCell ⟨b7, 5, none⟩ (.int .i64 rd)) b7 [.bool true, .bool bc, .bool oi, .bool oo, .bool nl, .int .i64 rd, .slice qa ps.length qc]) := Lib.hid (HE6.out.set 5 (.int .i64 rd))
                  have HD8 := Lib.hid (HD7.out.other (b' := b7) (by omega) 5 (.int .i64 rd))
                  have HB8 : Hid (Below w.heap.size w (w7.setCell ⟨b7, 5, none⟩ (.int .i64 rd))) := Lib.hid (HB7.out.setCell (p := ⟨b7, 5, none⟩) HQ.out (.int .i64 rd))
                  have HI9 : Hid (InS (w7.setCell ⟨b7, 5, none⟩ (.int .i64 rd)) qa ps) := Lib.hid (fun hp => by
                    obtain ⟨B, o, e, hlt, hlt2, hc⟩ := HI8.out hp
                    refine ⟨B, o, e, by simpa [World.setCell] using hlt2, fun i hi => (World.cell?_setCell_other _ _ _ _ fun h => ?_).trans (hc i hi)⟩
                    injection h with h1 h2
                    omega)
                  clear HI8 HI7
                  go_upto_region 24 with fail
                  clear x5 y5 f5
                  generalize w7.setCell ⟨b7, 5, none⟩ (.int .i64 rd) = w8 at *
                  have HSm : Hid (Calls Tryd.prog 18 #[.agg #[.bool true, .bool bc, .bool oi, .bool oo, .bool nl, .int .i64 rd, .slice qa ps.length qc], .agg #[.bool true, .bool bc, .bool oi, .bool oo, .bool nl, .int .i64 rd, .slice a ps.length c]] w8 fun e w' => e = .returned (.bool true) ∧ Below w8.heap.size w8 w') := Lib.hid (same_calls w8 ⟨true, bc, oi, oo, nl, rd, ps⟩ ⟨true, bc, oi, oo, nl, rd, ps⟩ qa a qc c HI9.out (HIa.out _ HB8.out) (by have := HN.out; simp only; omega) (by have := HN.out; simp only; omega) true ⟨fun _ => rfl, fun _ => rfl⟩)
                  have HE8 : Hid (CellL w8 b7 [.bool true, .bool bc, .bool oi, .bool oo, .bool nl, .int .i64 rd, .slice qa ps.length qc]) := HE8
                  have x0 := HE8.out.at 0 rfl
                  have y0 := HD8.out.at 0 rfl
                  have x1 := HE8.out.at 1 rfl
                  have y1 := HD8.out.at 1 rfl
                  have x2 := HE8.out.at 2 rfl
                  have y2 := HD8.out.at 2 rfl
                  have x3 := HE8.out.at 3 rfl
                  have y3 := HD8.out.at 3 rfl
                  have x4 := HE8.out.at 4 rfl
                  have y4 := HD8.out.at 4 rfl
                  have x5 := HE8.out.at 5 rfl
                  have y5 := HD8.out.at 5 rfl
                  have x6 := HE8.out.at 6 rfl
                  have y6 := HD8.out.at 6 rfl
                  go_wp2_with fail
                  refine HSm.out.mono ?_
                  rintro e w9 ⟨rfl, hb9⟩
                  have HB9 := Lib.hid (bstep HB8.out hb9)
                  clear hb9
                  go_wp2_with fail
                  go_ret
                  exact ⟨by first | rfl | simp, HB9.out⟩
                | succ k =>
                  obtain rfl : z = (k : Int) := by omega
                  clear hz
                  have hkn : k < ps.length := by have := HN.out; omega
                  have hkc : (k : Int) < (n : Int) := by omega
                  have hk0 : (0 : Int) ≤ (k : Int) := by omega
                  have x6 := HDr.out.at 6 rfl
                  obtain ⟨B, o, rfl, -, hcell⟩ := HIa.out _ HBr.out (by omega)
                  have c0 := hcell k hkn
                  have HT : Hid (pw (ps.drop k).reverse = pw (ps.drop (k + 1)).reverse ++ [preW, ps[k]]) := Lib.hid (by rw [List.drop_eq_getElem_cons hkn, List.reverse_cons, pw_snoc])
                  have HLe : Hid ((onW true :: (holds Bs ++ pw (ps.drop (k + 1)).reverse)).length ≤ 1000000) := Lib.hid (by have h1 := holds_len Bs; have h2 := HB4.out; have h3 := pw_len (ps.drop (k + 1)).reverse; rw [List.length_reverse, List.length_drop] at h3; have := HN.out; simp; omega)
                  clear hcell
                  generalize ps[k] = y at *
                  have hwk : IntKind.i64.wrap ((k : Int) - 1) = (k : Int) - 1 := by rw [IntKind.wrap_i64]; omega
                  have HL2 : Hid ((onW true :: (holds Bs ++ pw (ps.drop (k + 1)).reverse)) ++ [preW, y] = onW true :: (holds Bs ++ pw (ps.drop k).reverse)) := Lib.hid (by rw [HT.out]; simp)
                  go_wp2_with (at_builtin; refine pushHs HR2.out (bbox _) rfl _ _ rfl rfl [preW, y] _ _ rfl rfl ?_ HLe.out (by simp) ?_)
                  · intro j hj
                    rw [World.cell?_alloc_new]
                    match j, hj with
                    | 0, _ => rfl
                    | 1, _ => rfl
                  · intro v5 w9 hR5
                    have HR5 : Hid (Hp w5 w9 [rowST v5 (onW true :: (holds Bs ++ pw (ps.drop k).reverse)), cellsT G [.int .i64 (bi bc), .int .i64 (bi oi), .int .i64 (bi oo), .int .i64 (bi nl)]]) := Lib.hid (by rw [HT.out]; simpa using hR5)
                    clear hR5 x6 c0
                    go_wp2_with fail
                    go_roundg (gk - 1)
                    case measure => omega
                    case rel => exact ⟨_, k, rfl, rfl, by omega, by omega, HR5⟩
end Go.Proofs.YtjpbpdjomfkkeaaDoor.Ma
