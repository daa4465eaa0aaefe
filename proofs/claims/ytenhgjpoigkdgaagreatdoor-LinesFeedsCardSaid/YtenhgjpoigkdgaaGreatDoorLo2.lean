/- The statements' alive call of layer 6: true. Conditions: what start-up lays ('PCtx'); the variable MaxLen holds some int. -/
import Derived.Test.YtenhgjpoigkdgaaGreatDoorLo1
namespace Go.Proofs.YtenhgjpoigkdgaaGreatDoor.Ln
open Go.ChangeShapes Go.WideShapes Go.ChangeAt Go.RowKit

theorem inb_of_own {B : Nat} {w : World} {v : Value} {l : List UInt8} (h : w.ownsRow B 5 1 v l.length (cellsB l)) : ∃ a c, v = .slice a l.length c ∧ InB w a c l ∧ (a = none → c = 0) := by
  rcases h.2 with ⟨rfl, hn⟩ | ⟨g, cap, cur, rfl, hg, hh, h1, h2, h3, h4⟩
  · exact ⟨none, 0, by rw [hn], ⟨by omega, by omega, fun hl => absurd hl (by omega)⟩, fun _ => rfl⟩
  · refine ⟨some ⟨g, 0, none⟩, cap, rfl, ⟨h1, by unfold maxLen at h2; omega, fun _ => ⟨g, 0, rfl, fun i hi => ?_⟩⟩, fun e => by cases e⟩
    have e1 : (cur.toList.take (l.length * 1))[i]? = cur.toList[i]? := List.getElem?_take_of_lt (by omega)
    rw [h4] at e1
    rw [Nat.zero_add]
    simp only [World.cell?, hh]
    have e2 : (cellsB l)[i]? = some (.int .u8 (l[i].toNat : Int)) := by simp [cellsB, Lib.byteCells, hi]
    rw [e2] at e1
    simpa using e1.symm
theorem own_of_buf {wb w : World} {v : Value} {l : List UInt8} (h : BufB wb w v l) : w.ownsRow wb.heap.size 5 1 v l.length (cellsB l) := by
  have := h.row
  rw [cellsB_len] at this
  exact this
/-- The bytes l in a new block, marked as those of a text. -/
theorem inb_new (w : World) (C : Array Value) (l : List UInt8) (hC : C = (cellsB l).toArray) (fr : Nat × Nat) (hl : l.length ≤ 1000000) : InB (w.alloc (.cells C 5 fr)) (some ⟨w.heap.size, 0, none⟩) l.length l := by
  subst hC
  refine ⟨Nat.le_refl _, by omega, fun _ => ⟨w.heap.size, 0, rfl, fun i hi => ?_⟩⟩
  rw [Nat.zero_add, World.cell?_alloc_mark]
  simp [cellsB, Lib.byteCells, hi]
def aliveB : List UInt8 := [83, 69, 84, 32, 107, 32, 34, 97, 32, 98, 34, 10]
def aliveW : List (List UInt8) := [[83, 69, 84], [107], [97, 32, 98]]
theorem alive_parse : Lw.parseR aliveB = .got aliveW 12 := by
  have e : Lw.parseR aliveB = match Lw.wrun (.gap []) [83, 69, 84, 32, 107, 32, 34, 97, 32, 98, 34] with
    | none => .bad
    | some ws => .got ws 12 := by rfl
  rw [e]
  simp [Lw.wrun, Lw.gap, Lw.check, Lw.fine, aliveW]
set_option maxHeartbeats 8000000 in
set_option maxRecDepth 1000000 in
theorem alive_calls (w : World) (hc : PCtx w) (hmx : MaxOk w) : Calls Tryz.prog 6 #[] w fun e w' => e = .returned (.bool true) ∧ Below w.heap.size w w' := by
  have HC := Lib.hid hc
  have HM := Lib.hid hmx
  have HN := Lib.hid (new_calls w)
  have kc := fun (w : World) (C : Array Value) (n c : Nat) => Lib.run_convert_bytes_const (P := Tryz.prog) w 22 5 C n c Tryz.underlying22 Tryz.underlying5
  clear hc hmx
  go_enter Tryz.func6, Tryz.ntmps6
  go_wp2_with fail
  refine HN.out.mono ?_; rintro en w1 ⟨rfl, hw1⟩
  have c0 : w1.cell? ⟨w.heap.size, 0, none⟩ = some (.slice none 0 0) := by subst hw1; go_simp
  have c1 : w1.cell? ⟨w.heap.size, 1, none⟩ = some (.bool false) := by subst hw1; go_simp
  have f0 : w1.frozen? ⟨w.heap.size, 0, none⟩ = false := by subst hw1; go_simp
  have f1 : w1.frozen? ⟨w.heap.size, 1, none⟩ = false := by subst hw1; go_simp
  have hb1 : Below w.heap.size w w1 := by subst hw1; exact bbox _
  have hlt : w.heap.size < w1.heap.size := by subst hw1; simp
  have Hw := Lib.hid (And.intro c0 (And.intro c1 (And.intro f0 (And.intro f1 (And.intro hb1 hlt)))))
  clear hw1 c0 c1 f0 f1 hb1 hlt
  go_wp2_with fail
  have hB := inb_new w1 #[.int .u8 83, .int .u8 69, .int .u8 84, .int .u8 32, .int .u8 107, .int .u8 32, .int .u8 34, .int .u8 97, .int .u8 32, .int .u8 98, .int .u8 34, .int .u8 10] aliveB rfl (12, 13) (by decide)
  obtain ⟨c0, c1, f0, f1, hb1, hlt⟩ := Hw.out
  have hbx := bbox (w := w1) (.cells #[.int .u8 83, .int .u8 69, .int .u8 84, .int .u8 32, .int .u8 107, .int .u8 32, .int .u8 34, .int .u8 97, .int .u8 32, .int .u8 98, .int .u8 34, .int .u8 10] 5 (12, 13))
  have c0' := (hbx.cell (p := ⟨w.heap.size, 0, none⟩) hlt).trans c0
  have c1' := (hbx.cell (p := ⟨w.heap.size, 1, none⟩) hlt).trans c1
  have f0' := (hbx.frozen (p := ⟨w.heap.size, 0, none⟩) hlt).trans f0
  have f1' := (hbx.frozen (p := ⟨w.heap.size, 1, none⟩) hlt).trans f1
  have hlt' := Nat.lt_of_lt_of_le hlt hbx.size
  have hb1' := bstep hb1 hbx
  have hF := feed_new w.heap.size _ c0' c1' f0' _ _ aliveB hB (by decide) (by decide)
  generalize w1.alloc _ = W1 at *
  have HF := Lib.hid hF
  have Hw2 := Lib.hid (And.intro c1' (And.intro f0' (And.intro f1' (And.intro hb1' (And.intro hlt' c0')))))
  clear hF c0 c1 f0 f1 hb1 hlt hbx c0' c1' f0' f1' hlt' hb1' hB
  have HF2 : Hid (Calls Tryz.prog 9 #[.pointer (some ⟨w.heap.size, 0, none⟩), .slice (some ⟨w1.heap.size, 0, none⟩) 12 12] W1 fun e w' => e = .returned (.tuple #[]) ∧ ∃ w2 v, BufB W1 w2 v aliveB ∧ w' = w2.setCell ⟨w.heap.size, 0, none⟩ v) := HF
  refine HF2.out.mono ?_; rintro en w3 ⟨rfl, w2, v, hBuf, rfl⟩
  obtain ⟨d1, df0, df1, hb, hl, d0⟩ := Hw2.out
  have hown := own_of_buf hBuf
  obtain ⟨a, c, rfl, hIn, hnil⟩ := inb_of_own (ownsRow_setCell_below hown (a := ⟨w.heap.size, 0, none⟩) hl v)
  have g0 := (hBuf.bel.cell (p := ⟨w.heap.size, 0, none⟩) hl).trans d0
  have g1 := (hBuf.bel.cell (p := ⟨w.heap.size, 1, none⟩) hl).trans d1
  have gf0 := (hBuf.bel.frozen (p := ⟨w.heap.size, 0, none⟩) hl).trans df0
  have gf1 := (hBuf.bel.frozen (p := ⟨w.heap.size, 1, none⟩) hl).trans df1
  have k0 : (w2.setCell ⟨w.heap.size, 0, none⟩ (.slice a aliveB.length c)).cell? ⟨w.heap.size, 0, none⟩ = some (.slice a aliveB.length c) := World.cell?_setCell_same w2 _ _ g0
  have k1 : (w2.setCell ⟨w.heap.size, 0, none⟩ (.slice a aliveB.length c)).cell? ⟨w.heap.size, 1, none⟩ = some (.bool false) := (World.cell?_setCell_other _ _ _ _ (addr_ne (.inr (by show (0 : Nat) ≠ 1; decide)))).trans g1
  have kf0 : (w2.setCell ⟨w.heap.size, 0, none⟩ (.slice a aliveB.length c)).frozen? ⟨w.heap.size, 0, none⟩ = false := by rw [World.frozen?_setCell]; exact gf0
  have kf1 : (w2.setCell ⟨w.heap.size, 0, none⟩ (.slice a aliveB.length c)).frozen? ⟨w.heap.size, 1, none⟩ = false := by rw [World.frozen?_setCell]; exact gf1
  have kb : Below w.heap.size w (w2.setCell ⟨w.heap.size, 0, none⟩ (.slice a aliveB.length c)) := (bstep hb hBuf.bel).trans (Below.setCell (p := ⟨w.heap.size, 0, none⟩) (Below.refl w.heap.size w2) (Nat.le_refl _) _)
  have hX := next_one w.heap.size _ aliveB a c k0 k1 kf0 kf1 (by decide) hnil (HC.out.below kb) (HM.out.below kb) hIn aliveW alive_parse (by decide)
  have Hkb := Lib.hid kb
  have HX := Lib.hid hX
  clear hX g0 g1 gf0 gf1 k0 k1 kf0 kf1 kb hIn hnil hown hBuf d0 d1 df0 df1 hb hl HC HM kc
  generalize w2.setCell _ _ = W3 at *
  go_wp2_with fail
  refine HX.out.mono ?_; rintro en w4 ⟨v4, rfl, hLie, hbe, j0, j1⟩
  obtain ⟨a4, c4, rfl, hc4, hm4, hcells⟩ := hLie.facts
  obtain ⟨g, rfl, hx0⟩ := hcells 0 (by decide)
  obtain ⟨g2, e2, hx1⟩ := hcells 1 (by decide)
  injection e2 with e2; injection e2 with e2 _; subst e2
  obtain ⟨g3, e3, hx2⟩ := hcells 2 (by decide)
  injection e3 with e3; injection e3 with e3 _; subst e3
  have hx0 : w4.cell? ⟨g, 0, none⟩ = some (.string ⟨#[83, 69, 84]⟩) := hx0
  have hx1 : w4.cell? ⟨g, 1, none⟩ = some (.string ⟨#[107]⟩) := hx1
  have hx2 : w4.cell? ⟨g, 2, none⟩ = some (.string ⟨#[97, 32, 98]⟩) := hx2
  have hc4 : 3 ≤ c4 := hc4
  have HL := Lib.hid (left_calls w.heap.size none 0 0 w4 j0)
  have Hb4 := Lib.hid (Hkb.out.trans hbe)
  clear hcells hLie hbe HX Hkb
  have elen : aliveW.length = 3 := rfl
  rw [elen]
  clear elen
  go_wp2_with fail
  refine HL.out.mono ?_; rintro en w5 ⟨rfl, rfl⟩
  go_wp2_with fail
  go_ret
  exact ⟨rfl, Hb4.out⟩
end Go.Proofs.YtenhgjpoigkdgaaGreatDoor.Ln
