/- Package lines' Next at any object. Conditions: what start-up lays ('PCtx'); the variable MaxLen holds some int; bounds. -/
import Derived.Test.YtenhgjpoigkdgaaGreatDoorLe3
namespace Go.Proofs.YtenhgjpoigkdgaaGreatDoor.Ln
open Go.ChangeShapes Go.WideShapes Go.ChangeAt Go.RowKit
open Go.Proofs.YtenhgjpoigkdgaaGreatDoor.Lw
set_option maxRecDepth 100000 in
theorem InB.dropG {w : World} {g o c : Nat} {l : List UInt8} (h : InB w (some ⟨g, o, none⟩) c l) (u : Nat) (hu : u < l.length) :
    InB w (some ⟨g, o + u, none⟩) (c - u) (l.drop u) ∧ ∀ wx, (Instr.slice 22 (.slice (some ⟨g, o, none⟩) l.length c) (some (.int .i64 u)) none none).run Tryz.prog wx = .ok (.slice (some ⟨g, o + u, none⟩) (l.length - u) (c - u)) wx := by
  have hcap := h.cap
  have hmax := h.max
  have hel : Tryz.prog.underlying 22 = some (.slice (Tryz.prog.elem 22)) := by kernel_rfl
  have hsz : ∀ wx, (sizeOf (Tryz.prog.elem 22)).run Tryz.prog wx = .ok 1 wx := fun wx => by kernel_rfl
  refine ⟨⟨by rw [List.length_drop]; omega, by omega, fun _ => ⟨g, o + u, rfl, fun i hi => ?_⟩⟩, fun wx => ?_⟩
  · rw [List.length_drop] at hi
    obtain ⟨g2, o2, e, hc⟩ := h.cell (by omega)
    injection e with e
    injection e with e1 e2
    subst e1 e2
    rw [Nat.add_assoc, hc (u + i) (by omega), List.getElem_drop]
  · rw [run_slice_l wx _ _ l.length c hel .i64 u (by omega) (by omega), hsz]
    simp only [Result.andThen, sliced, Int.toNat_natCast, Nat.mul_one]
    rw [if_neg (by omega)]
    simp [Addr.add_lit]
theorem Wt.flag {L B G : Nat} {w : World} {l : List UInt8} (h : Wt L B G w l) : Wt L B G (w.setCell ⟨L, 1, none⟩ (.bool false)) l := by
  obtain ⟨a, c, h0, hB, hn, ha⟩ := h.row
  have hne : ∀ ad, a = some ad → ad.block ≠ L := fun ad e => by
    obtain ⟨h1, h2, -⟩ := ha ad e
    have := h.lt
    omega
  refine ⟨h.lt, by rw [World.size_setCell]; exact h.le, ⟨a, c, (World.cell?_setCell_other _ _ _ _ (addr_ne (.inr (by show (1 : Nat) ≠ 0; decide)))).trans h0, hB.setCell hne 1 _, hn, fun ad e => ?_⟩, World.cell?_setCell_same w _ _ h.c1, by rw [World.frozen?_setCell]; exact h.f0, by rw [World.frozen?_setCell]; exact h.f1⟩
  obtain ⟨h1, h2, h3, h4, h5⟩ := ha ad e
  refine ⟨h1, h2, by rw [World.size_setCell]; exact h3, h4, fun j hj => ?_⟩
  have hGL : G ≠ L := by have := h.lt; omega
  rw [World.cell?_setCell_other _ _ _ _ (addr_ne (.inl (fun e => hGL e.symm))), World.frozen?_setCell]
  exact h5 j hj
set_option maxHeartbeats 4000000 in
set_option maxRecDepth 100000 in
theorem drop_wt (L B G : Nat) (w : World) (y : List UInt8) (hW : Wt L B G w y) (u : Nat) (hu : u ≤ y.length) :
    Calls Tryz.prog 19 #[.pointer (some ⟨L, 0, none⟩), .int .i64 (u : Nat)] w fun e w' => e = .returned (.tuple #[]) ∧ Wt L B G w' (y.drop u) ∧ Fr (fun i => i = L) w w' := by
  obtain ⟨a, c, h0, hB, hn, ha⟩ := hW.row
  by_cases hul : u = y.length
  · subst hul
    refine (drop_all L a y.length c w h0 hW.c1 hW.f0).mono ?_
    rintro en w' ⟨rfl, rfl⟩
    refine ⟨rfl, ?_, Fr.setCell (S := fun i => i = L) w _ rfl _⟩
    rw [List.drop_length]
    exact hW.ob.set (r := []) (a := none) (c := 0) ⟨Nat.le_refl _, Nat.zero_le _, fun h => absurd h (Nat.lt_irrefl _)⟩ (fun _ => rfl) (fun ad e => by cases e)
  · obtain ⟨g, o, rfl, -⟩ := hB.cell (by omega)
    obtain ⟨hg, h1, h2, -, h5⟩ := ha _ rfl
    have hg : g = G := hg
    subst hg
    obtain ⟨hB2, hfrom⟩ := hB.dropG u (by omega)
    refine (drop_part L (some ⟨g, o, none⟩) (some ⟨g, o + u, none⟩) y.length c u (by omega) w h0 hW.c1 hW.f0 hfrom).mono ?_
    rintro en w' ⟨rfl, rfl⟩
    refine ⟨rfl, ?_, Fr.setCell (S := fun i => i = L) w _ rfl _⟩
    have hl : y.length - u = (y.drop u).length := by rw [List.length_drop]
    rw [hl]
    refine hW.ob.set hB2 (fun e => by cases e) fun ad e => ?_
    injection e with e
    subst e
    refine ⟨rfl, h1, h2, rfl, fun j hj => ?_⟩
    rw [show o + u + j = o + (u + j) by omega]
    exact h5 (u + j) (by omega)
/-- What comes of Next. -/
def NextAll (L B G N : Nat) (c : List (List (List UInt8))) (r : List UInt8) (e : Int) (w : World) (en : Ending) (w' : World) : Prop := Fr (fun i => i = L) w w' ∧
  ((c = [] ∧ e = 0 ∧ en = .returned (.tuple #[.slice none 0 0, .bool false, .int .i64 0]) ∧ Wt L B G w' r) ∨ (c = [] ∧ e = 61 ∧ en = .returned (.tuple #[.slice none 0 0, .bool false, .int .i64 61]) ∧ Failed L w') ∨
    ∃ ws c' y' a' cp, c = ws :: c' ∧ en = .returned (.tuple #[.slice a' ws.length cp, .bool true, .int .i64 0]) ∧ ws.length ≤ cp ∧ cp ≤ 9223372036854775807 ∧ InS w' a' ws ∧ (∀ ad, a' = some ad → w.heap.size ≤ ad.block ∧ ad.block < w'.heap.size) ∧ Wt L B G w' y' ∧ All y' c' r e ∧ y'.length ≤ N)
set_option maxHeartbeats 8000000 in
set_option maxRecDepth 1000000 in
theorem next_wt (L B G : Nat) (w : World) (y : List UInt8) (hW : Wt L B G w y) (hm : y.length ≤ 1000000) (hc : ∀ w', Below L w w' → PCtx w' ∧ MaxOk w') (c : List (List (List UInt8))) (r : List UInt8) (e : Int) (hA : All y c r e) :
    Calls Tryz.prog 10 #[.pointer (some ⟨L, 0, none⟩)] w (NextAll L B G y.length c r e w) := by
  have HW := Lib.hid hW
  have HC := Lib.hid hc
  have HA := Lib.hid hA
  have HL := hW.lo
  clear hW hc hA
  go_enter Tryz.func10, Tryz.ntmps10
  go_wp2_with fail
  go_loopg [5, 6, 7] (y.length + 1) (fun g _ _ _ wr => Hid (Fr (fun i => i = L) w wr) ∧ ((∃ y', Hid (Wt L B G wr y') ∧ Hid (All y' c r e) ∧ y'.length + 1 ≤ g ∧ y'.length ≤ y.length) ∨ (Failed L wr ∧ c = [] ∧ e = 61)))
  case atStart => exact ⟨Lib.hid (Fr.of_below (Below.refl _ _)), .inl ⟨y, HW, HA, by omega, by omega⟩⟩
  case round =>
    obtain ⟨HF, hst⟩ := hrel
    rcases hst with ⟨y', HW', HA', hyg, hyl⟩ | ⟨hFd, rfl, rfl⟩
    · have hbl : Below L w wr := HF.out.below (Nat.le_of_lt HL) (fun i hi => by omega)
      obtain ⟨hpc, hmx⟩ := HC.out wr hbl
      obtain ⟨a, cp, h0, hB, hn, -⟩ := HW'.out.row
      have h1 := HW'.out.c1
      have f0 := HW'.out.f0
      have f1 := HW'.out.f1
      have hP := parse_calls y' (by omega) a cp hn wr hpc hmx hB
      have hLs := HW'.out.lo
      clear hbl hpc hmx hB hn
      cases hq : Lw.parseR y' with
      | bad =>
        obtain ⟨rfl, rfl, rfl⟩ := HA'.out.bad_inv hq
        rw [hq] at hP
        have HP := Lib.hid hP
        clear hP hq
        go_wp2_with fail
        refine HP.out.mono ?_; rintro en w2 ⟨hb2, hans⟩
        rcases hans with ⟨-, rfl⟩ | ⟨h, -⟩ | ⟨_, _, _, h, -⟩
        rotate_left
        · cases h
        · cases h
        have g0 : w2.cell? ⟨L, 0, none⟩ = some (.slice a y'.length cp) := (hb2.cell (p := ⟨L, 0, none⟩) hLs).trans h0
        have g1 : w2.cell? ⟨L, 1, none⟩ = some (.bool false) := (hb2.cell (p := ⟨L, 1, none⟩) hLs).trans h1
        have gf0 : w2.frozen? ⟨L, 0, none⟩ = false := (hb2.frozen (p := ⟨L, 0, none⟩) hLs).trans f0
        have gf1 : w2.frozen? ⟨L, 1, none⟩ = false := (hb2.frozen (p := ⟨L, 1, none⟩) hLs).trans f1
        have HF2 := Lib.hid (HF.out.trans (Fr.of_below hb2))
        have HW2 := Lib.hid (HW'.out.below hb2)
        clear hb2
        go_wp2_with fail
        have k0 : (w2.setCell ⟨L, 1, none⟩ (.bool true)).cell? ⟨L, 0, none⟩ = some (.slice a y'.length cp) := (World.cell?_setCell_other _ _ _ _ (addr_ne (.inr (by show (1 : Nat) ≠ 0; decide)))).trans g0
        have k1 : (w2.setCell ⟨L, 1, none⟩ (.bool true)).cell? ⟨L, 1, none⟩ = some (.bool true) := World.cell?_setCell_same w2 _ _ g1
        have kf : (w2.setCell ⟨L, 1, none⟩ (.bool true)).frozen? ⟨L, 0, none⟩ = false := by rw [World.frozen?_setCell]; exact gf0
        have HF3 := Lib.hid (HF2.out.trans (Fr.setCell (S := fun i => i = L) w2 ⟨L, 1, none⟩ rfl (.bool true)))
        generalize w2.setCell ⟨L, 1, none⟩ (.bool true) = W3 at *
        refine (drop_failed L 0 (.slice a y'.length cp) W3 k0 k1 kf).mono ?_; rintro en w4 ⟨rfl, rfl⟩
        have j0 : (W3.setCell ⟨L, 0, none⟩ (.slice none 0 0)).cell? ⟨L, 0, none⟩ = some (.slice none 0 0) := World.cell?_setCell_same W3 _ _ k0
        have j1 : (W3.setCell ⟨L, 0, none⟩ (.slice none 0 0)).cell? ⟨L, 1, none⟩ = some (.bool true) := (World.cell?_setCell_other _ _ _ _ (addr_ne (.inr (by show (0 : Nat) ≠ 1; decide)))).trans k1
        have HF4 := Lib.hid (HF3.out.trans (Fr.setCell (S := fun i => i = L) W3 ⟨L, 0, none⟩ rfl (.slice none 0 0)))
        clear k0 k1 kf g0 g1 gf0 gf1 h0 h1 f0 f1
        generalize W3.setCell ⟨L, 0, none⟩ (.slice none 0 0) = W4 at *
        go_wp2_with fail
        go_roundg (gk - 1)
        case measure => omega
        case rel => exact ⟨HF4, .inr ⟨⟨j0, j1⟩, by first | rfl | trivial, by first | rfl | trivial⟩⟩
      | short =>
        obtain ⟨rfl, hry, rfl⟩ := HA'.out.short_inv hq
        rw [hq] at hP
        have HP := Lib.hid hP
        clear hP hq
        go_wp2_with fail
        refine HP.out.mono ?_; rintro en w2 ⟨hb2, hans⟩
        rcases hans with ⟨h, -⟩ | ⟨-, rfl⟩ | ⟨_, _, _, h, -⟩
        · cases h
        rotate_left
        · cases h
        have g0 : w2.cell? ⟨L, 0, none⟩ = some (.slice a y'.length cp) := (hb2.cell (p := ⟨L, 0, none⟩) hLs).trans h0
        have g1 : w2.cell? ⟨L, 1, none⟩ = some (.bool false) := (hb2.cell (p := ⟨L, 1, none⟩) hLs).trans h1
        have gf0 : w2.frozen? ⟨L, 0, none⟩ = false := (hb2.frozen (p := ⟨L, 0, none⟩) hLs).trans f0
        have gf1 : w2.frozen? ⟨L, 1, none⟩ = false := (hb2.frozen (p := ⟨L, 1, none⟩) hLs).trans f1
        have HF2 := Lib.hid (HF.out.trans (Fr.of_below hb2))
        have HW2 := Lib.hid (HW'.out.below hb2)
        clear hb2
        go_wp2_with fail
        have HW3 := Lib.hid HW2.out.flag
        have HF3 := Lib.hid (HF2.out.trans (Fr.setCell (S := fun i => i = L) w2 ⟨L, 1, none⟩ rfl (.bool false)))
        have hzz : (w2.setCell ⟨L, 1, none⟩ (.bool false)).heap.size = w2.heap.size := by rw [World.size_setCell]
        have HK3 := Lib.hid (fun i (_ : i < w2.heap.size) (hne : i ≠ L) => (Below.heap_setCell w2 ⟨L, 1, none⟩ (.bool false) i hne : (w2.setCell ⟨L, 1, none⟩ (.bool false)).heap[i]? = w2.heap[i]?))
        generalize w2.setCell ⟨L, 1, none⟩ (.bool false) = W3 at *
        have HD : Hid (Calls Tryz.prog 19 #[.pointer (some ⟨L, 0, none⟩), .int .i64 0] W3 fun e w' => e = .returned (.tuple #[]) ∧ Wt L B G w' (y'.drop 0) ∧ Fr (fun i => i = L) W3 w') := Lib.hid (drop_wt L B G W3 y' HW3.out 0 (by omega))
        refine HD.out.mono ?_; rintro en w4 ⟨rfl, hW4, hF4⟩
        have HW4 := Lib.hid hW4
        have HF4 := Lib.hid (HF3.out.trans hF4)
        have HK : Hid (∀ i, i < w2.heap.size → i ≠ L → w4.heap[i]? = w2.heap[i]?) := Lib.hid (fun i hi hne => (hF4.block i (by omega) hne).trans (HK3.out i hi hne))
        have HSz : Hid (w2.heap.size ≤ w4.heap.size) := Lib.hid (by have := hF4.size; omega)
        have k1 := hW4.c1
        have kz := hF4.size
        clear hW4 hF4 g0 g1 gf0 gf1 h0 h1 f0 f1
        go_wp2_with fail
        go_ret3
        exact ⟨HF4.out, .inl ⟨rfl, rfl, rfl, by rw [hry]; exact HW4.out⟩⟩
      | got ws u =>
        have hg := Lw.parseR_got hq
        have hu0 : ((u : Int) == 0) = false := by rw [beq_eq_false_iff_ne]; omega
        rw [hq] at hP
        have HP := Lib.hid hP
        clear hP
        by_cases hws : 0 < ws.length
        case neg =>
          obtain rfl : ws = [] := List.eq_nil_of_length_eq_zero (by omega)
          have HA2 := Lib.hid (HA'.out.skip_inv hq)
          clear hq
          go_wp2_with fail
          refine HP.out.mono ?_; rintro en w2 ⟨hb2, hans⟩
          rcases hans with ⟨h, -⟩ | ⟨h, -⟩ | ⟨ws2, u2, v2, h, rfl, hS2⟩
          · cases h
          · cases h
          injection h with e1 e2
          subst e1 e2
          obtain ⟨av, cv, rfl, -, -⟩ := hS2.slice
          clear hS2
          have g0 : w2.cell? ⟨L, 0, none⟩ = some (.slice a y'.length cp) := (hb2.cell (p := ⟨L, 0, none⟩) hLs).trans h0
          have g1 : w2.cell? ⟨L, 1, none⟩ = some (.bool false) := (hb2.cell (p := ⟨L, 1, none⟩) hLs).trans h1
          have gf0 : w2.frozen? ⟨L, 0, none⟩ = false := (hb2.frozen (p := ⟨L, 0, none⟩) hLs).trans f0
          have gf1 : w2.frozen? ⟨L, 1, none⟩ = false := (hb2.frozen (p := ⟨L, 1, none⟩) hLs).trans f1
          have HF2 := Lib.hid (HF.out.trans (Fr.of_below hb2))
          have HW2 := Lib.hid (HW'.out.below hb2)
          clear hb2
          go_wp2_with fail
          have HW3 := Lib.hid HW2.out.flag
          have HF3 := Lib.hid (HF2.out.trans (Fr.setCell (S := fun i => i = L) w2 ⟨L, 1, none⟩ rfl (.bool false)))
          have hzz : (w2.setCell ⟨L, 1, none⟩ (.bool false)).heap.size = w2.heap.size := by rw [World.size_setCell]
          have HK3 := Lib.hid (fun i (_ : i < w2.heap.size) (hne : i ≠ L) => (Below.heap_setCell w2 ⟨L, 1, none⟩ (.bool false) i hne : (w2.setCell ⟨L, 1, none⟩ (.bool false)).heap[i]? = w2.heap[i]?))
          generalize w2.setCell ⟨L, 1, none⟩ (.bool false) = W3 at *
          have HD : Hid (Calls Tryz.prog 19 #[.pointer (some ⟨L, 0, none⟩), .int .i64 (u : Nat)] W3 fun e w' => e = .returned (.tuple #[]) ∧ Wt L B G w' (y'.drop u) ∧ Fr (fun i => i = L) W3 w') := Lib.hid (drop_wt L B G W3 y' HW3.out u (by omega))
          refine HD.out.mono ?_; rintro en w4 ⟨rfl, hW4, hF4⟩
          have HW4 := Lib.hid hW4
          have HF4 := Lib.hid (HF3.out.trans hF4)
          have HK : Hid (∀ i, i < w2.heap.size → i ≠ L → w4.heap[i]? = w2.heap[i]?) := Lib.hid (fun i hi hne => (hF4.block i (by omega) hne).trans (HK3.out i hi hne))
          have HSz : Hid (w2.heap.size ≤ w4.heap.size) := Lib.hid (by have := hF4.size; omega)
          have k1 := hW4.c1
          have kz := hF4.size
          clear hW4 hF4 g0 g1 gf0 gf1 h0 h1 f0 f1
          go_wp2_with fail
          go_roundg (gk - 1)
          case measure => omega
          case rel => exact ⟨HF4, .inl ⟨y'.drop u, HW4, HA2, by rw [List.length_drop]; omega, by rw [List.length_drop]; omega⟩⟩
        case pos =>
          obtain ⟨c', rfl, hA2⟩ := HA'.out.take_inv hq hws
          have HA2 := Lib.hid hA2
          clear hq hA2
          have hws0 : (0 : Int) < (ws.length : Int) := by omega
          go_wp2_with fail
          refine HP.out.mono ?_; rintro en w2 ⟨hb2, hans⟩
          rcases hans with ⟨h, -⟩ | ⟨h, -⟩ | ⟨ws2, u2, v2, h, rfl, hS2⟩
          · cases h
          · cases h
          injection h with e1 e2
          subst e1 e2
          obtain ⟨av, cv, rfl, hd2, hm2, hI2, hap2⟩ := lie_at (Lie.of hS2)
          have HI2 : Hid (InS w2 av ws) := Lib.hid hI2
          have HAp := Lib.hid hap2
          have hsz0 := HF.out.size
          clear hS2 hI2 hap2
          have g0 : w2.cell? ⟨L, 0, none⟩ = some (.slice a y'.length cp) := (hb2.cell (p := ⟨L, 0, none⟩) hLs).trans h0
          have g1 : w2.cell? ⟨L, 1, none⟩ = some (.bool false) := (hb2.cell (p := ⟨L, 1, none⟩) hLs).trans h1
          have gf0 : w2.frozen? ⟨L, 0, none⟩ = false := (hb2.frozen (p := ⟨L, 0, none⟩) hLs).trans f0
          have gf1 : w2.frozen? ⟨L, 1, none⟩ = false := (hb2.frozen (p := ⟨L, 1, none⟩) hLs).trans f1
          have HF2 := Lib.hid (HF.out.trans (Fr.of_below hb2))
          have HW2 := Lib.hid (HW'.out.below hb2)
          clear hb2
          go_wp2_with fail
          have HW3 := Lib.hid HW2.out.flag
          have HF3 := Lib.hid (HF2.out.trans (Fr.setCell (S := fun i => i = L) w2 ⟨L, 1, none⟩ rfl (.bool false)))
          have hzz : (w2.setCell ⟨L, 1, none⟩ (.bool false)).heap.size = w2.heap.size := by rw [World.size_setCell]
          have HK3 := Lib.hid (fun i (_ : i < w2.heap.size) (hne : i ≠ L) => (Below.heap_setCell w2 ⟨L, 1, none⟩ (.bool false) i hne : (w2.setCell ⟨L, 1, none⟩ (.bool false)).heap[i]? = w2.heap[i]?))
          generalize w2.setCell ⟨L, 1, none⟩ (.bool false) = W3 at *
          have HD : Hid (Calls Tryz.prog 19 #[.pointer (some ⟨L, 0, none⟩), .int .i64 (u : Nat)] W3 fun e w' => e = .returned (.tuple #[]) ∧ Wt L B G w' (y'.drop u) ∧ Fr (fun i => i = L) W3 w') := Lib.hid (drop_wt L B G W3 y' HW3.out u (by omega))
          refine HD.out.mono ?_; rintro en w4 ⟨rfl, hW4, hF4⟩
          have HW4 := Lib.hid hW4
          have HF4 := Lib.hid (HF3.out.trans hF4)
          have HK : Hid (∀ i, i < w2.heap.size → i ≠ L → w4.heap[i]? = w2.heap[i]?) := Lib.hid (fun i hi hne => (hF4.block i (by omega) hne).trans (HK3.out i hi hne))
          have HSz : Hid (w2.heap.size ≤ w4.heap.size) := Lib.hid (by have := hF4.size; omega)
          have k1 := hW4.c1
          have kz := hF4.size
          clear hW4 hF4 g0 g1 gf0 gf1 h0 h1 f0 f1
          have HI4 : Hid (InS w4 av ws) := Lib.hid (HI2.out.keep fun ad e => HK.out ad.block (HAp.out ad e).2 (by have := (HAp.out ad e).1; omega))
          have HAp4 : Hid (∀ ad, av = some ad → w.heap.size ≤ ad.block ∧ ad.block < w4.heap.size) := Lib.hid (fun ad e => by
            have h := HAp.out ad e
            have h2 := HSz.out
            omega)
          go_wp2_with fail
          go_ret3
          exact ⟨HF4.out, .inr (.inr ⟨ws, c', y'.drop u, av, cv, rfl, rfl, hd2, hm2, HI4.out, HAp4.out, HW4.out, HA2.out, by rw [List.length_drop]; omega⟩)⟩
    · have HFd := Lib.hid hFd
      have h1 := hFd.c1
      clear hFd
      go_wp2_with fail
      go_ret3
      exact ⟨HF.out, .inr (.inl ⟨rfl, rfl, rfl, HFd.out⟩)⟩
end Go.Proofs.YtenhgjpoigkdgaaGreatDoor.Ln
