/- ExpiryOrders. No condition. -/
import Derived.Test.YtabhnnffohnecaaEz5
import Derived.Deep.RegionHeld3
namespace Go.Proofs.Ytabhnnffohnecaa.Ea
open Go.ChangeShapes Go.WideShapes Go.ChangeAt Go.RowKit Go.Maps Go.WideMaps
theorem rev_at {l : List Du} {j r : Nat} (hj : j < l.length) (hr : r = l.length - 1 - j) : l.reverse[j]'(by rw [List.length_reverse]; exact hj) = l[r]'(by omega) := by
  subst hr
  rw [List.getElem_reverse]
theorem putAll_take_rev {l : List Du} {j r : Nat} (hj : j < l.length) (hrl : r < l.length) (hr : r = l.length - 1 - j) : putAll (l.reverse.take (j + 1)) = putT l[r].2 l[r].1 (putAll (l.reverse.take j)) := by
  rw [putAll_take (by rw [List.length_reverse]; exact hj), rev_at hj hr]
set_option maxHeartbeats 16000000 in
set_option maxRecDepth 100000 in
theorem expiryOrders (xa : Option Addr) (xc : Nat) (l : List Du) (w : World) (hI : InD w xa l) (hxc : l.length ≤ xc) (hS : ∀ i (h : i < l.length), l[i].2.size ≤ maxLen) (t0 t1 : Int) :
    Calls Try.prog 5 #[.slice xa l.length xc, .agg #[.int .i64 t0, .int .i64 t1]] w fun e w' => e = .returned (.bool true) ∧ Below w.heap.size w w' := by
  have HSZ := Lib.hid hS
  have HI1 := Lib.hid (hI.below (Nat.le_refl _) (bbox (.cells #[.int .i64 t0, .int .i64 t1] 51)))
  have HB1 := Lib.hid (bbox (w := w) (.cells #[.int .i64 t0, .int .i64 t1] 51))
  have HC0 : Hid ((w.alloc (.cells #[.int .i64 t0, .int .i64 t1] 51)).cell? ⟨w.heap.size, 0, none⟩ = some (.int .i64 t0) ∧ (w.alloc (.cells #[.int .i64 t0, .int .i64 t1] 51)).cell? ⟨w.heap.size, 1, none⟩ = some (.int .i64 t1)) := Lib.hid ⟨by rw [World.cell?_alloc_new]; rfl, by rw [World.cell?_alloc_new]; rfl⟩
  clear hI hS
  have HA := Lib.hid (expiryAlive (w.alloc (.cells #[.int .i64 t0, .int .i64 t1] 51)))
  go_enter Try.func5, Try.ntmps5
  go_wp2_with fail
  refine HA.out.mono ?_; rintro en w2 ⟨rfl, hb2⟩
  have HB2 := Lib.hid (bstep HB1.out hb2)
  have HI2 := Lib.hid (HI1.out.below (Nat.le_refl _) hb2)
  have hA0 := cell_bel4 hb2 HC0.out.1
  have hA1 := cell_bel4 hb2 HC0.out.2
  have HC := Lib.hid (And.intro hA0 hA1)
  clear hb2 HA HI1 HB1 HC0 hA0 hA1
  generalize w.heap.size = A at HC ⊢
  by_cases hl : 60 < l.length
  · have hlc : (60 : Int) < (l.length : Int) := by omega
    go_wp2_with fail
    go_ret
    exact ⟨rfl, HB2.out⟩
  have hlc : ¬ (60 : Int) < (l.length : Int) := by omega
  have HN := Lib.hid (ec_new w2 w2 (Below.refl _ _))
  go_wp2_with fail
  refine HN.out.mono ?_; rintro en w3 ⟨T, rfl, h3⟩
  have HN2 := Lib.hid (e2_new h3)
  clear h3 HN
  go_wp2_with fail
  refine HN2.out.mono ?_; rintro en w4 ⟨U, rfl, h4⟩
  have H4 := Lib.hid h4
  have HI4 := Lib.hid (HI2.out.below (Nat.le_refl _) h4.below)
  have HC4 := Lib.hid (And.intro (cell_bel4 h4.below HC.out.1) (cell_bel4 h4.below HC.out.2))
  have HB4 := Lib.hid (HB2.out.trans (h4.below.mono HB2.out.size))
  clear h4 HN2
  go_wp2_with fail
  go_loopg [25] (l.length + 1) (fun g vi wr => ∃ j : Nat, vi = .int .i64 j ∧ j ≤ l.length ∧ l.length - j ≤ g ∧ Hid (∀ i m (hi : i < l.length) (hm : m < i), i < j → l[m].2 ≠ l[i].2) ∧ Hid (Below w4.heap.size w4 wr))
  case atStart => exact ⟨0, rfl, Nat.zero_le _, by omega, Lib.hid (fun i m hi hm h => absurd h (Nat.not_lt_zero _)), Lib.hid (Below.refl _ _)⟩
  case round =>
    obtain ⟨j, rfl, hj, hg, HNd, HBr⟩ := hrel
    by_cases hjl : j < l.length
    case pos =>
      have hjc : (j : Int) < (l.length : Int) := by omega
      have hjx : (j : Int) ≤ (xc : Int) := by omega
      have hjx2 : ¬ (xc : Int) < (j : Int) := by omega
      have hjx3 : j ≤ xc := by omega
      obtain ⟨b, o, rfl, hbl, hat⟩ := HI4.out.below (Nat.le_refl _) HBr.out (by omega)
      obtain ⟨e0, e1⟩ := hat j hjl
      have HAt := Lib.hid (HI4.out)
      have HQ : Hid (∀ m (hm : m < l.length), l[m].2 ≠ l[j].2 → l[m].2 ≠ l[j].2) := Lib.hid fun _ _ h => h
      clear hat HQ
      generalize hz : l[j].1 = z at *
      generalize hq : l[j].2 = q at *
      have HQe := Lib.hid hq
      clear hz hq
      have y1 : (wr.alloc (.cells #[.int .i64 z, .string q] 26)).cell? ⟨wr.heap.size, 0 + 1, none⟩ = some (.string q) := by rw [World.cell?_alloc_new]; rfl
      have HBx := Lib.hid (bstep HBr.out (bbox (w := wr) (.cells #[.int .i64 z, .string q] 26)))
      go_wp2_with fail
      have HY1 := Lib.hid y1
      clear y1 e0 e1
      generalize wr.alloc (.cells #[.int .i64 z, .string q] 26) = wx at *
      generalize wr.heap.size = N at *
      obtain ⟨gko, rfl⟩ : ∃ x, x = gk := ⟨gk, rfl⟩
      go_loopg [34] (j + 1) (fun g2 vi wr2 => ∃ m : Nat, vi = .int .i64 m ∧ m ≤ j ∧ j - m ≤ g2 ∧ Hid (∀ n (hn : n < l.length), n < m → l[n].2 ≠ q) ∧ Hid (Below wx.heap.size wx wr2))
      case atStart => exact ⟨0, rfl, Nat.zero_le _, by omega, Lib.hid (fun n hn h => absurd h (Nat.not_lt_zero _)), Lib.hid (Below.refl _ _)⟩
      case round =>
        obtain ⟨m, rfl, hm, hg2, HNm, HBm⟩ := hrel
        have y1 := cell_bel4 HBm.out HY1.out
        by_cases hmj : m < j
        case pos =>
          have hmc : (m : Int) < (j : Int) := by omega
          have hml : m < l.length := by omega
          obtain ⟨b', o', eb, hbl2, hat⟩ := (HI4.out.below (Nat.le_refl _) HBx.out).below (Nat.le_refl _) HBm.out (by omega)
          cases eb
          obtain ⟨d0, d1⟩ := hat m hml
          have HNx : Hid (l[m].2 ≠ q → ∀ n (hn : n < l.length), n < m + 1 → l[n].2 ≠ q) := Lib.hid fun h n hn hlt => by
            by_cases e : n = m
            · subst e; exact h
            · exact HNm.out n hn (by omega)
          clear hat
          generalize l[m].1 = z2 at *
          generalize l[m].2 = q2 at *
          have HB9 := Lib.hid (bstep HBm.out (bbox (w := _) (.cells #[.int .i64 z2, .string q2] 26)))
          have y2 := cell_bel4 (bbox (.cells #[.int .i64 z2, .string q2] 26)) y1
          by_cases hqq : q2 = q
          case pos =>
            have hqe := beq_eq hqq
            clear hqq HNx
            go_wp2_with fail
            go_ret
            exact ⟨rfl, HB4.out.trans ((bstep HBx.out HB9.out).mono HB4.out.size)⟩
          case neg =>
            have hqe := beq_ne hqq
            have HZ := Lib.hid (HNx.out hqq)
            clear hqq HNx
            go_wp2_with fail
            go_roundg (gk - 1)
            case measure => omega
            case rel => exact ⟨m + 1, by go_num, by omega, by omega, HZ, HB9⟩
        case neg =>
          have hmc : ¬ ((m : Int) < (j : Int)) := by omega
          obtain rfl : m = j := by omega
          have HZ : Hid (∀ i n (hi : i < l.length) (hn : n < i), i < m + 1 → l[n].2 ≠ l[i].2) := Lib.hid fun i n hi hn hlt => by
            by_cases e : i = m
            · subst e; rw [HQe.out]; exact HNm.out n (by omega) hn
            · exact HNd.out i n hi hn (by omega)
          have HBe := Lib.hid (bstep HBx.out HBm.out)
          clear y1
          go_wp2_with fail
          go_roundg (gko - 1)
          case measure => omega
          case rel => exact ⟨m + 1, by go_num, by omega, by omega, HZ, HBe⟩
    case neg =>
      have hjc : ¬ ((j : Int) < (l.length : Int)) := by omega
      obtain rfl : j = l.length := by omega
      have HKn := Lib.hid (keys_nodup (l := l) fun i m hi hm => HNd.out i m hi hm hi)
      have HE0 : Hid (E2 w2 T U wr [] []) := Lib.hid (H4.out.bel HBr.out)
      have HBe := Lib.hid HBr.out
      clear HNd hg hj H4 hjc
      obtain ⟨gko, rfl⟩ : ∃ x, x = gk := ⟨gk, rfl⟩
      go_wp2_with fail
      go_loopg [47] (l.length + 1) (fun g3 vi wq => ∃ j : Nat, vi = .int .i64 j ∧ j ≤ l.length ∧ l.length - j ≤ g3 ∧ Hid (E2 w2 T U wq (putAll (l.take j)) (putAll (l.reverse.take j))))
      case atStart => exact ⟨0, rfl, Nat.zero_le _, by omega, HE0⟩
      case round =>
        obtain ⟨j, rfl, hj, hg, HE⟩ := hrel
        clear HE0
        by_cases hjl : j < l.length
        case pos =>
          have hjc : (j : Int) < (l.length : Int) := by omega
          obtain ⟨r, hr⟩ : ∃ r, r = l.length - 1 - j := ⟨_, rfl⟩
          have hrl : r < l.length := by omega
          have hrI : ((l.length : Int) - 1 - (j : Int)) = (r : Int) := by omega
          have hrc : (r : Int) < (l.length : Int) := by omega
          have hwr : IntKind.i64.wrap (IntKind.i64.wrap ((l.length : Int) - 1) - (j : Int)) = (r : Int) := by rw [IntKind.wrap_i64, IntKind.wrap_i64]; omega
          have HIq := Lib.hid (HI2.out.below (Nat.le_refl _) HE.out.below)
          obtain ⟨b, o, rfl, hbl, hat⟩ := HIq.out (by omega)
          obtain ⟨e0, e1⟩ := hat j hjl
          have HSj := Lib.hid (HSZ.out j hjl)
          have HSr := Lib.hid (HSZ.out r hrl)
          have HZa := Lib.hid (putAll_take hjl)
          have HZb := Lib.hid (putAll_take_rev hjl hrl hr)
          clear hr
          have HLa : Hid ((putAll (l.take j)).length ≤ 60) := Lib.hid (by have := putAll_le (l.take j); have := List.length_take_le j l; omega)
          have HLb : Hid ((putAll (l.reverse.take j)).length ≤ 60) := Lib.hid (by have := putAll_le (l.reverse.take j); rw [List.length_take] at this; omega)
          clear hat
          generalize l[j].1 = z at *
          generalize l[j].2 = q at *
          generalize hz2 : l[r].1 = z2 at *
          generalize hq2 : l[r].2 = q2 at *
          have HZ2 := Lib.hid hz2.symm
          have HQ2 := Lib.hid hq2.symm
          clear hz2 hq2
          go_wp2_with fail
          obtain ⟨F1, hF1⟩ : ∃ F : Nat → World, ∀ x, F x = wr.drewN x := ⟨fun x => wr.drewN x, fun _ => rfl⟩
          have fa0 : ∀ x, (F1 x).cell? ⟨b, o + j * 2, none⟩ = some (.int .i64 z) := fun x => by rw [hF1]; exact e0
          have fa1 : ∀ x, (F1 x).cell? ⟨b, o + j * 2 + 1, none⟩ = some (.string q) := fun x => by rw [hF1]; exact e1
          have ga : ∃ x, wr.drew = F1 x := ⟨1, by rw [hF1]; rfl⟩
          have HF1 := Lib.hid hF1
          clear hF1
          refine wp_region_tail F1 11 (by kernel_rfl) (by kernel_rfl) ga ?_
          simp only [List.take_succ_cons, List.take_zero, List.drop_succ_cons, List.drop_zero]
          repeat (go_big_quiet_step (fail))
          refine wpQuiet_nil ?_
          intro xa
          have HWa : Hid (F1 xa = wr.drewN xa) := Lib.hid (HF1.out xa)
          clear ga HF1 fa0 fa1
          generalize F1 xa = Wa at *
          have HXa := Lib.hid (HE.out.bel (w' := Wa) (by rw [HWa.out]; exact ⟨rfl, rfl, rfl, Nat.le_refl _, fun _ _ => rfl⟩))
          have HPa := Lib.hid (HXa.out.put q HSj.out z (Nat.le_trans HLa.out (by decide)))
          go_wp2_with fail
          refine HPa.out.mono ?_; rintro en w5 ⟨rfl, h5⟩
          have H5 := Lib.hid h5
          have d0 : w5.cell? ⟨b, o + r * 2, none⟩ = some (.int .i64 z2) := by
            have hi := (HI2.out.below (Nat.le_refl _) h5.below)
            obtain ⟨b2, o2, eb, -, hat2⟩ := hi (by omega)
            cases eb
            rw [HZ2.out]
            exact (hat2 r hrl).1
          have d1 : w5.cell? ⟨b, o + r * 2 + 1, none⟩ = some (.string q2) := by
            have hi := (HI2.out.below (Nat.le_refl _) h5.below)
            obtain ⟨b2, o2, eb, -, hat2⟩ := hi (by omega)
            cases eb
            rw [HQ2.out]
            exact (hat2 r hrl).2
          clear h5 HPa HXa HE e0 e1
          go_wp2_with fail
          have HXb := Lib.hid (H5.out.bel (w' := w5.drew) ⟨rfl, rfl, rfl, Nat.le_refl _, fun _ _ => rfl⟩)
          have HPb := Lib.hid (HXb.out.symm.put q2 HSr.out z2 (Nat.le_trans HLb.out (by decide)))
          have HS6 : Hid (∀ W, Below w2.heap.size w2 W → W.cell? ⟨b, o + r * 2, none⟩ = some (.int .i64 z2) ∧ W.cell? ⟨b, o + r * 2 + 1, none⟩ = some (.string q2)) := Lib.hid fun W hW => by
            obtain ⟨b2, o2, eb, -, hat2⟩ := HI2.out.below (Nat.le_refl _) hW (by omega)
            cases eb
            rw [HZ2.out, HQ2.out]
            exact hat2 r hrl
          refine wp_region_held_drew (S := fun w' : World => w'.cell? ⟨b, o + r * 2, none⟩ = some (.int .i64 z2) ∧ w'.cell? ⟨b, o + r * 2 + 1, none⟩ = some (.string q2)) (by kernel_rfl) ⟨d0, d1⟩ (fun hHeld => ?_)
          refine wpAnyH_take (i := 0) (oi := { dst := some 62, op := Op.move (Operand.tmp 6), type := 23, pos := "law.go:94", after := #[], guard := none }) (v := ?vp0) rfl (by kernel_rfl) (by kernel_rfl) (by kernel_rfl) (fun _ _ _ h => h) (Or.inl ⟨by rfl, ?yp0⟩) (by assumption) ?rp0
          case yp0 => (intro w hSw; (try dsimp only at hSw); go_simp; (try with_reducible rfl))
          try simp only [Act.put, List.setIfInBounds_toArray, List.set_cons_zero, List.set_cons_succ]
          refine wpAnyH_take (i := 1) (oi := { dst := some 63, op := Op.move (Operand.tmp 0), type := 32, pos := "law.go:94", after := #[], guard := none }) (v := ?vp1) rfl (by kernel_rfl) (by kernel_rfl) (by kernel_rfl) (fun _ _ _ h => h) (Or.inl ⟨by rfl, ?yp1⟩) (by assumption) ?rp1
          case yp1 => (intro w hSw; (try dsimp only at hSw); go_simp; (try with_reducible rfl))
          try simp only [Act.put, List.setIfInBounds_toArray, List.set_cons_zero, List.set_cons_succ]
          refine wpAnyH_take (i := 2) (oi := { dst := some 64, op := Op.move (Operand.tmp 0), type := 32, pos := "law.go:94", after := #[], guard := none }) (v := ?vp2) rfl (by kernel_rfl) (by kernel_rfl) (by kernel_rfl) (fun _ _ _ h => h) (Or.inl ⟨by rfl, ?yp2⟩) (by assumption) ?rp2
          case yp2 => (intro w hSw; (try dsimp only at hSw); go_simp; (try with_reducible rfl))
          try simp only [Act.put, List.setIfInBounds_toArray, List.set_cons_zero, List.set_cons_succ]
          refine wpAnyH_take (i := 3) (oi := { dst := some 65, op := Op.call { callee := Callee.builtin Builtin.len, args := #[Operand.tmp 64], argTypes := #[32] }, type := 3, pos := "law.go:94", after := #[{ on := 2, ground := Ground.data }], guard := none }) (v := ?vp3) rfl (by kernel_rfl) (by kernel_rfl) (by kernel_rfl) (fun _ _ _ h => h) (Or.inl ⟨by rfl, ?yp3⟩) (by assumption) ?rp3
          case yp3 => (intro w hSw; (try dsimp only at hSw); go_simp; (try with_reducible rfl))
          try simp only [Act.put, List.setIfInBounds_toArray, List.set_cons_zero, List.set_cons_succ]
          refine wpAnyH_take (i := 4) (oi := { dst := some 66, op := Op.binOp BinOp.sub 3 (Operand.tmp 65) (Operand.const (Value.int IntKind.i64 1)) 3, type := 3, pos := "law.go:94", after := #[{ on := 3, ground := Ground.data }], guard := none }) (v := ?vp4) rfl (by kernel_rfl) (by kernel_rfl) (by kernel_rfl) (fun _ _ _ h => h) (Or.inl ⟨by rfl, ?yp4⟩) (by assumption) ?rp4
          case yp4 => (intro w hSw; (try dsimp only at hSw); go_simp; (try with_reducible rfl))
          try simp only [Act.put, List.setIfInBounds_toArray, List.set_cons_zero, List.set_cons_succ]
          refine wpAnyH_take (i := 5) (oi := { dst := some 67, op := Op.move (Operand.tmp 11), type := 3, pos := "law.go:94", after := #[], guard := none }) (v := ?vp5) rfl (by kernel_rfl) (by kernel_rfl) (by kernel_rfl) (fun _ _ _ h => h) (Or.inl ⟨by rfl, ?yp5⟩) (by assumption) ?rp5
          case yp5 => (intro w hSw; (try dsimp only at hSw); go_simp; (try with_reducible rfl))
          try simp only [Act.put, List.setIfInBounds_toArray, List.set_cons_zero, List.set_cons_succ]
          refine wpAnyH_take (i := 6) (oi := { dst := some 68, op := Op.binOp BinOp.sub 3 (Operand.tmp 66) (Operand.tmp 67) 3, type := 3, pos := "law.go:94", after := #[{ on := 4, ground := Ground.data }, { on := 5, ground := Ground.data }], guard := none }) (v := ?vp6) rfl (by kernel_rfl) (by kernel_rfl) (by kernel_rfl) (fun _ _ _ h => h) (Or.inl ⟨by rfl, ?yp6⟩) (by assumption) ?rp6
          case yp6 => (intro w hSw; (try dsimp only at hSw); go_simp; (try with_reducible rfl))
          try simp only [Act.put, List.setIfInBounds_toArray, List.set_cons_zero, List.set_cons_succ]
          refine wpAnyH_take (i := 7) (oi := { dst := some 69, op := Op.indexAddr 32 (Operand.tmp 63) (Operand.tmp 68), type := 0, pos := "law.go:94", after := #[{ on := 1, ground := Ground.data }, { on := 6, ground := Ground.data }], guard := none }) (v := ?vp7) rfl (by kernel_rfl) (by kernel_rfl) (by kernel_rfl) (fun _ _ _ h => h) (Or.inl ⟨by rfl, ?yp7⟩) (by assumption) ?rp7
          case yp7 => (intro w hSw; (try dsimp only at hSw); go_simp; (try with_reducible rfl))
          try simp only [Act.put, List.setIfInBounds_toArray, List.set_cons_zero, List.set_cons_succ]
          refine wpAnyH_take (i := 8) (oi := { dst := some 70, op := Op.fieldAddr 26 (Operand.tmp 69) 1, type := 0, pos := "law.go:94", after := #[{ on := 7, ground := Ground.data }], guard := none }) (v := ?vp8) rfl (by kernel_rfl) (by kernel_rfl) (by kernel_rfl) (fun _ _ _ h => h) (Or.inl ⟨by rfl, ?yp8⟩) (by assumption) ?rp8
          case yp8 => (intro w hSw; (try dsimp only at hSw); go_simp; (try with_reducible rfl))
          try simp only [Act.put, List.setIfInBounds_toArray, List.set_cons_zero, List.set_cons_succ]
          refine wpAnyH_take (i := 9) (oi := { dst := some 71, op := Op.load 9 (Operand.tmp 70), type := 9, pos := "law.go:94", after := #[{ on := 8, ground := Ground.data }], guard := none }) (v := ?vp9) rfl (by kernel_rfl) (by kernel_rfl) (by kernel_rfl) (fun _ _ _ h => h) (Or.inl ⟨by rfl, ?yp9⟩) (by assumption) ?rp9
          case yp9 => (intro w hSw; (try dsimp only at hSw); go_simp; (try with_reducible rfl))
          try simp only [Act.put, List.setIfInBounds_toArray, List.set_cons_zero, List.set_cons_succ]
          refine wpAnyH_take (i := 10) (oi := { dst := some 72, op := Op.move (Operand.tmp 0), type := 32, pos := "law.go:94", after := #[], guard := none }) (v := ?vp10) rfl (by kernel_rfl) (by kernel_rfl) (by kernel_rfl) (fun _ _ _ h => h) (Or.inl ⟨by rfl, ?yp10⟩) (by assumption) ?rp10
          case yp10 => (intro w hSw; (try dsimp only at hSw); go_simp; (try with_reducible rfl))
          try simp only [Act.put, List.setIfInBounds_toArray, List.set_cons_zero, List.set_cons_succ]
          refine wpAnyH_take (i := 11) (oi := { dst := some 73, op := Op.move (Operand.tmp 0), type := 32, pos := "law.go:94", after := #[], guard := none }) (v := ?vp11) rfl (by kernel_rfl) (by kernel_rfl) (by kernel_rfl) (fun _ _ _ h => h) (Or.inl ⟨by rfl, ?yp11⟩) (by assumption) ?rp11
          case yp11 => (intro w hSw; (try dsimp only at hSw); go_simp; (try with_reducible rfl))
          try simp only [Act.put, List.setIfInBounds_toArray, List.set_cons_zero, List.set_cons_succ]
          refine wpAnyH_take (i := 12) (oi := { dst := some 74, op := Op.call { callee := Callee.builtin Builtin.len, args := #[Operand.tmp 73], argTypes := #[32] }, type := 3, pos := "law.go:94", after := #[{ on := 11, ground := Ground.data }], guard := none }) (v := ?vp12) rfl (by kernel_rfl) (by kernel_rfl) (by kernel_rfl) (fun _ _ _ h => h) (Or.inl ⟨by rfl, ?yp12⟩) (by assumption) ?rp12
          case yp12 => (intro w hSw; (try dsimp only at hSw); go_simp; (try with_reducible rfl))
          try simp only [Act.put, List.setIfInBounds_toArray, List.set_cons_zero, List.set_cons_succ]
          refine wpAnyH_take (i := 13) (oi := { dst := some 75, op := Op.binOp BinOp.sub 3 (Operand.tmp 74) (Operand.const (Value.int IntKind.i64 1)) 3, type := 3, pos := "law.go:94", after := #[{ on := 12, ground := Ground.data }], guard := none }) (v := ?vp13) rfl (by kernel_rfl) (by kernel_rfl) (by kernel_rfl) (fun _ _ _ h => h) (Or.inl ⟨by rfl, ?yp13⟩) (by assumption) ?rp13
          case yp13 => (intro w hSw; (try dsimp only at hSw); go_simp; (try with_reducible rfl))
          try simp only [Act.put, List.setIfInBounds_toArray, List.set_cons_zero, List.set_cons_succ]
          refine wpAnyH_take (i := 14) (oi := { dst := some 76, op := Op.move (Operand.tmp 11), type := 3, pos := "law.go:94", after := #[], guard := none }) (v := ?vp14) rfl (by kernel_rfl) (by kernel_rfl) (by kernel_rfl) (fun _ _ _ h => h) (Or.inl ⟨by rfl, ?yp14⟩) (by assumption) ?rp14
          case yp14 => (intro w hSw; (try dsimp only at hSw); go_simp; (try with_reducible rfl))
          try simp only [Act.put, List.setIfInBounds_toArray, List.set_cons_zero, List.set_cons_succ]
          refine wpAnyH_take (i := 15) (oi := { dst := some 77, op := Op.binOp BinOp.sub 3 (Operand.tmp 75) (Operand.tmp 76) 3, type := 3, pos := "law.go:94", after := #[{ on := 13, ground := Ground.data }, { on := 14, ground := Ground.data }], guard := none }) (v := ?vp15) rfl (by kernel_rfl) (by kernel_rfl) (by kernel_rfl) (fun _ _ _ h => h) (Or.inl ⟨by rfl, ?yp15⟩) (by assumption) ?rp15
          case yp15 => (intro w hSw; (try dsimp only at hSw); go_simp; (try with_reducible rfl))
          try simp only [Act.put, List.setIfInBounds_toArray, List.set_cons_zero, List.set_cons_succ]
          refine wpAnyH_take (i := 16) (oi := { dst := some 78, op := Op.indexAddr 32 (Operand.tmp 72) (Operand.tmp 77), type := 0, pos := "law.go:94", after := #[{ on := 10, ground := Ground.data }, { on := 15, ground := Ground.data }], guard := none }) (v := ?vp16) rfl (by kernel_rfl) (by kernel_rfl) (by kernel_rfl) (fun _ _ _ h => h) (Or.inl ⟨by rfl, ?yp16⟩) (by assumption) ?rp16
          case yp16 => (intro w hSw; (try dsimp only at hSw); go_simp; (try with_reducible rfl))
          try simp only [Act.put, List.setIfInBounds_toArray, List.set_cons_zero, List.set_cons_succ]
          refine wpAnyH_take (i := 17) (oi := { dst := some 79, op := Op.fieldAddr 26 (Operand.tmp 78) 0, type := 0, pos := "law.go:94", after := #[{ on := 16, ground := Ground.data }], guard := none }) (v := ?vp17) rfl (by kernel_rfl) (by kernel_rfl) (by kernel_rfl) (fun _ _ _ h => h) (Or.inl ⟨by rfl, ?yp17⟩) (by assumption) ?rp17
          case yp17 => (intro w hSw; (try dsimp only at hSw); go_simp; (try with_reducible rfl))
          try simp only [Act.put, List.setIfInBounds_toArray, List.set_cons_zero, List.set_cons_succ]
          refine wpAnyH_take (i := 18) (oi := { dst := some 80, op := Op.load 2 (Operand.tmp 79), type := 2, pos := "law.go:94", after := #[{ on := 17, ground := Ground.data }], guard := none }) (v := ?vp18) rfl (by kernel_rfl) (by kernel_rfl) (by kernel_rfl) (fun _ _ _ h => h) (Or.inl ⟨by rfl, ?yp18⟩) (by assumption) ?rp18
          case yp18 => (intro w hSw; (try dsimp only at hSw); go_simp; (try with_reducible rfl))
          try simp only [Act.put, List.setIfInBounds_toArray, List.set_cons_zero, List.set_cons_succ]
          refine wpAnyH_ready (rs := [19]) (by kernel_rfl) (by simp) ?_
          refine AllReadyH.cons (o := { dst := some 81, op := Op.call { callee := Callee.value (Operand.func 10), args := #[Operand.tmp 62, Operand.tmp 71, Operand.tmp 80], argTypes := #[23, 9, 2] }, type := 29, pos := "law.go:94", after := #[{ on := 0, ground := Ground.data }, { on := 9, ground := Ground.data }, { on := 18, ground := Ground.data }], guard := none }) rfl (fun K hK => ?_) AllReadyH.nil
          go_simp
          refine (HPb.out).mono ?_; rintro en w6 ⟨rfl, h6⟩
          have H6 := Lib.hid h6.symm
          have S6 : Hid ((fun w' : World => w'.cell? ⟨b, o + r * 2, none⟩ = some (.int .i64 z2) ∧ w'.cell? ⟨b, o + r * 2 + 1, none⟩ = some (.string q2)) w6) := Lib.hid (HS6.out w6 h6.below)
          clear h6
          (try go_wp2_with fail)
          refine hK.out _ _ S6.out (fun hHeld => ?_)
          clear hK
          try simp only [Act.put, List.setIfInBounds_toArray, List.set_cons_zero, List.set_cons_succ]
          refine wpAnyH_done (by kernel_rfl) ?_ _
          clear HPb HXb H5 d0 d1
          go_wp2_with fail
          go_roundg (gk - 1)
          case measure => omega
          case rel => exact ⟨j + 1, by go_num, by omega, by omega, by rw [HZa.out, HZb.out]; exact H6⟩
        case neg =>
          have hjc : ¬ ((j : Int) < (l.length : Int)) := by omega
          obtain rfl : j = l.length := by omega
          rw [List.take_length, show l.reverse.take l.length = l.reverse by rw [List.take_of_length_le (by rw [List.length_reverse]; exact Nat.le_refl _)], putAll_rev HKn.out] at HE
          have HLe : Hid ((putAll l).length ≤ 60) := Lib.hid (by have := putAll_le l; omega)
          have HUp := Lib.hid (putAll_up l)
          clear HKn hg hj hjc
          generalize putAll l = S at *
          have HA1 := Lib.hid (HE.out.left.all (Nat.le_trans HLe.out (by decide)))
          obtain ⟨gkp, rfl⟩ : ∃ x, x = gk := ⟨gk, rfl⟩
          go_wp2_with fail
          refine HA1.out.mono ?_; rintro en w8 ⟨v8, rfl, hR8⟩
          have H8 := Lib.hid (HE.out.bel hR8.bel)
          obtain ⟨ra, rc, rfl, -, -, hI8⟩ := hR8.slice
          have HI8 := Lib.hid hI8
          have HA2 := Lib.hid (H8.out.symm.left.all (Nat.le_trans HLe.out (by decide)))
          clear hR8 hI8 HA1 HE
          go_wp2_with fail
          refine HA2.out.mono ?_; rintro en w9 ⟨v9, rfl, hR9⟩
          have H9 := Lib.hid (H8.out.bel hR9.bel)
          obtain ⟨qa, qc, rfl, -, -, hI9⟩ := hR9.slice
          have HI9 := Lib.hid (HI8.out.below (Nat.le_refl _) hR9.bel)
          have HSm := Lib.hid (sameD_calls w9 ra qa rc qc S (Nat.le_trans HLe.out (by decide)) HI9.out hI9)
          clear hR9 hI9 HA2 H8 HI8
          go_wp2_with fail
          refine HSm.out.mono ?_; rintro en w10 ⟨rfl, hb10⟩
          have H10 := Lib.hid (H9.out.bel hb10)
          have HI10 := Lib.hid (HI9.out.below (Nat.le_refl _) hb10)
          have hSl := HLe.out
          clear hb10 HSm H9 HI9
          go_wp2_with fail
          go_loopg [13] (S.length + 1) (fun g4 vi wz => ∃ i : Nat, vi = .int .i64 i ∧ 1 ≤ i ∧ i ≤ S.length + 1 ∧ S.length + 1 - i ≤ g4 ∧ Hid (Below w10.heap.size w10 wz))
          case atStart => exact ⟨1, rfl, Nat.le_refl _, by omega, by omega, Lib.hid (Below.refl _ _)⟩
          case round =>
            obtain ⟨i, rfl, hi1, hi2, hg, HBz⟩ := hrel
            by_cases hil : i < S.length
            case pos =>
              have hic : (i : Int) < (S.length : Int) := by omega
              obtain ⟨r, hr⟩ : ∃ r, r = i - 1 := ⟨_, rfl⟩
              have hrl : r < S.length := by omega
              have hrI : ((i : Int) - 1) = (r : Int) := by omega
              have hrc : (r : Int) < (S.length : Int) := by omega
              have hwr : IntKind.i64.wrap ((i : Int) - 1) = (r : Int) := by rw [IntKind.wrap_i64]; omega
              have hwr2 : IntKind.i64.wrap (r : Int) = (r : Int) := by rw [IntKind.wrap_i64]; omega
              obtain ⟨b, o, rfl, -, hat⟩ := HI10.out.below (Nat.le_refl _) HBz.out (by omega)
              obtain ⟨e0, e1⟩ := hat i hil
              obtain ⟨d0, d1⟩ := hat r hrl
              have hlt : ltE S[r] S[i] = true := List.pairwise_iff_getElem.1 HUp.out r i hrl hil (by omega)
              clear hr
              rw [ltE_iff] at hlt
              have hlt : S[r].1 < S[i].1 ∨ S[r].1 = S[i].1 ∧ Op.bytesLess S[r].2.toList S[i].2.toList = true := hlt
              clear hat
              generalize S[i].1 = z at *
              generalize S[i].2 = q at *
              generalize S[r].1 = z2 at *
              generalize S[r].2 = q2 at *
              rcases hlt with hlt | ⟨hlt, hbl⟩
              · have h1 : decide (z < z2) = false := decide_eq_false (by omega)
                have h2 : (z2 == z) = false := by rw [beq_eq_false_iff_ne]; omega
                go_wp2_with fail
                refine wp_region_held_drew (S := fun w' : World => w'.cell? ⟨b, o + i * 2, none⟩ = some (.int .i64 z) ∧ w'.cell? ⟨b, o + i * 2 + 1, none⟩ = some (.string q) ∧ w'.cell? ⟨b, o + r * 2, none⟩ = some (.int .i64 z2) ∧ w'.cell? ⟨b, o + r * 2 + 1, none⟩ = some (.string q2)) (by kernel_rfl) ⟨e0, e1, d0, d1⟩ (fun hHeld => ?_)
                refine wpAnyH_take (i := 0) (oi := { dst := some 96, op := Op.move (Operand.tmp 12), type := 32, pos := "law.go:101", after := #[], guard := none }) (v := ?vsa0) rfl (by kernel_rfl) (by kernel_rfl) (by kernel_rfl) (fun _ _ _ h => h) (Or.inl ⟨by rfl, ?ysa0⟩) (by assumption) ?rsa0
                case ysa0 => (intro w hSw; (try dsimp only at hSw); go_simp; (try with_reducible rfl))
                try simp only [Act.put, List.setIfInBounds_toArray, List.set_cons_zero, List.set_cons_succ]
                refine wpAnyH_take (i := 1) (oi := { dst := some 97, op := Op.move (Operand.tmp 13), type := 3, pos := "law.go:101", after := #[], guard := none }) (v := ?vsa1) rfl (by kernel_rfl) (by kernel_rfl) (by kernel_rfl) (fun _ _ _ h => h) (Or.inl ⟨by rfl, ?ysa1⟩) (by assumption) ?rsa1
                case ysa1 => (intro w hSw; (try dsimp only at hSw); go_simp; (try with_reducible rfl))
                try simp only [Act.put, List.setIfInBounds_toArray, List.set_cons_zero, List.set_cons_succ]
                refine wpAnyH_take (i := 2) (oi := { dst := some 98, op := Op.binOp BinOp.sub 3 (Operand.tmp 97) (Operand.const (Value.int IntKind.i64 1)) 3, type := 3, pos := "law.go:101", after := #[{ on := 1, ground := Ground.data }], guard := none }) (v := ?vsa2) rfl (by kernel_rfl) (by kernel_rfl) (by kernel_rfl) (fun _ _ _ h => h) (Or.inl ⟨by rfl, ?ysa2⟩) (by assumption) ?rsa2
                case ysa2 => (intro w hSw; (try dsimp only at hSw); go_simp; (try with_reducible rfl))
                try simp only [Act.put, List.setIfInBounds_toArray, List.set_cons_zero, List.set_cons_succ]
                refine wpAnyH_take (i := 3) (oi := { dst := some 99, op := Op.indexAddr 32 (Operand.tmp 96) (Operand.tmp 98), type := 0, pos := "law.go:101", after := #[{ on := 0, ground := Ground.data }, { on := 2, ground := Ground.data }], guard := none }) (v := ?vsa3) rfl (by kernel_rfl) (by kernel_rfl) (by kernel_rfl) (fun _ _ _ h => h) (Or.inl ⟨by rfl, ?ysa3⟩) (by assumption) ?rsa3
                case ysa3 => (intro w hSw; (try dsimp only at hSw); go_simp; (try with_reducible rfl))
                try simp only [Act.put, List.setIfInBounds_toArray, List.set_cons_zero, List.set_cons_succ]
                refine wpAnyH_take (i := 4) (oi := { dst := some 100, op := Op.fieldAddr 26 (Operand.tmp 99) 0, type := 0, pos := "law.go:101", after := #[{ on := 3, ground := Ground.data }], guard := none }) (v := ?vsa4) rfl (by kernel_rfl) (by kernel_rfl) (by kernel_rfl) (fun _ _ _ h => h) (Or.inl ⟨by rfl, ?ysa4⟩) (by assumption) ?rsa4
                case ysa4 => (intro w hSw; (try dsimp only at hSw); go_simp; (try with_reducible rfl))
                try simp only [Act.put, List.setIfInBounds_toArray, List.set_cons_zero, List.set_cons_succ]
                refine wpAnyH_take (i := 5) (oi := { dst := some 101, op := Op.load 2 (Operand.tmp 100), type := 2, pos := "law.go:101", after := #[{ on := 4, ground := Ground.data }], guard := none }) (v := ?vsa5) rfl (by kernel_rfl) (by kernel_rfl) (by kernel_rfl) (fun _ _ _ h => h) (Or.inl ⟨by rfl, ?ysa5⟩) (by assumption) ?rsa5
                case ysa5 => (intro w hSw; (try dsimp only at hSw); go_simp; (try with_reducible rfl))
                try simp only [Act.put, List.setIfInBounds_toArray, List.set_cons_zero, List.set_cons_succ]
                refine wpAnyH_take (i := 6) (oi := { dst := some 102, op := Op.move (Operand.tmp 12), type := 32, pos := "law.go:101", after := #[], guard := none }) (v := ?vsa6) rfl (by kernel_rfl) (by kernel_rfl) (by kernel_rfl) (fun _ _ _ h => h) (Or.inl ⟨by rfl, ?ysa6⟩) (by assumption) ?rsa6
                case ysa6 => (intro w hSw; (try dsimp only at hSw); go_simp; (try with_reducible rfl))
                try simp only [Act.put, List.setIfInBounds_toArray, List.set_cons_zero, List.set_cons_succ]
                refine wpAnyH_take (i := 7) (oi := { dst := some 103, op := Op.move (Operand.tmp 13), type := 3, pos := "law.go:101", after := #[], guard := none }) (v := ?vsa7) rfl (by kernel_rfl) (by kernel_rfl) (by kernel_rfl) (fun _ _ _ h => h) (Or.inl ⟨by rfl, ?ysa7⟩) (by assumption) ?rsa7
                case ysa7 => (intro w hSw; (try dsimp only at hSw); go_simp; (try with_reducible rfl))
                try simp only [Act.put, List.setIfInBounds_toArray, List.set_cons_zero, List.set_cons_succ]
                refine wpAnyH_take (i := 8) (oi := { dst := some 104, op := Op.indexAddr 32 (Operand.tmp 102) (Operand.tmp 103), type := 0, pos := "law.go:101", after := #[{ on := 6, ground := Ground.data }, { on := 7, ground := Ground.data }], guard := none }) (v := ?vsa8) rfl (by kernel_rfl) (by kernel_rfl) (by kernel_rfl) (fun _ _ _ h => h) (Or.inl ⟨by rfl, ?ysa8⟩) (by assumption) ?rsa8
                case ysa8 => (intro w hSw; (try dsimp only at hSw); go_simp; (try with_reducible rfl))
                try simp only [Act.put, List.setIfInBounds_toArray, List.set_cons_zero, List.set_cons_succ]
                refine wpAnyH_take (i := 9) (oi := { dst := some 105, op := Op.fieldAddr 26 (Operand.tmp 104) 0, type := 0, pos := "law.go:101", after := #[{ on := 8, ground := Ground.data }], guard := none }) (v := ?vsa9) rfl (by kernel_rfl) (by kernel_rfl) (by kernel_rfl) (fun _ _ _ h => h) (Or.inl ⟨by rfl, ?ysa9⟩) (by assumption) ?rsa9
                case ysa9 => (intro w hSw; (try dsimp only at hSw); go_simp; (try with_reducible rfl))
                try simp only [Act.put, List.setIfInBounds_toArray, List.set_cons_zero, List.set_cons_succ]
                refine wpAnyH_take (i := 10) (oi := { dst := some 106, op := Op.load 2 (Operand.tmp 105), type := 2, pos := "law.go:101", after := #[{ on := 9, ground := Ground.data }], guard := none }) (v := ?vsa10) rfl (by kernel_rfl) (by kernel_rfl) (by kernel_rfl) (fun _ _ _ h => h) (Or.inl ⟨by rfl, ?ysa10⟩) (by assumption) ?rsa10
                case ysa10 => (intro w hSw; (try dsimp only at hSw); go_simp; (try with_reducible rfl))
                try simp only [Act.put, List.setIfInBounds_toArray, List.set_cons_zero, List.set_cons_succ]
                refine wpAnyH_take (i := 11) (oi := { dst := some 107, op := Op.binOp BinOp.gtr 2 (Operand.tmp 101) (Operand.tmp 106) 2, type := 4, pos := "law.go:101", after := #[{ on := 5, ground := Ground.data }, { on := 10, ground := Ground.data }], guard := none }) (v := ?vsa11) rfl (by kernel_rfl) (by kernel_rfl) (by kernel_rfl) (fun _ _ _ h => h) (Or.inl ⟨by rfl, ?ysa11⟩) (by assumption) ?rsa11
                case ysa11 => (intro w hSw; (try dsimp only at hSw); go_simp; (try with_reducible rfl))
                try simp only [Act.put, List.setIfInBounds_toArray, List.set_cons_zero, List.set_cons_succ]
                refine wpAnyH_take (i := 12) (oi := { dst := some 108, op := Op.move (Operand.tmp 107), type := 4, pos := "law.go:101", after := #[{ on := 11, ground := Ground.data }], guard := none }) (v := ?vsa12) rfl (by kernel_rfl) (by kernel_rfl) (by kernel_rfl) (fun _ _ _ h => h) (Or.inl ⟨by rfl, ?ysa12⟩) (by assumption) ?rsa12
                case ysa12 => (intro w hSw; (try dsimp only at hSw); go_simp; (try with_reducible rfl))
                try simp only [Act.put, List.setIfInBounds_toArray, List.set_cons_zero, List.set_cons_succ]
                refine wpAnyH_take (i := 13) (oi := { dst := some 109, op := Op.move (Operand.tmp 12), type := 32, pos := "law.go:101", after := #[{ on := 12, ground := Ground.guard }], guard := some (12, false) }) (v := ?vsa13) rfl (by kernel_rfl) (by kernel_rfl) (by kernel_rfl) (fun _ _ _ h => h) (Or.inl ⟨by rfl, ?ysa13⟩) (by assumption) ?rsa13
                case ysa13 => (intro w hSw; (try dsimp only at hSw); go_simp; (try with_reducible rfl))
                try simp only [Act.put, List.setIfInBounds_toArray, List.set_cons_zero, List.set_cons_succ]
                refine wpAnyH_take (i := 14) (oi := { dst := some 110, op := Op.move (Operand.tmp 13), type := 3, pos := "law.go:101", after := #[{ on := 12, ground := Ground.guard }], guard := some (12, false) }) (v := ?vsa14) rfl (by kernel_rfl) (by kernel_rfl) (by kernel_rfl) (fun _ _ _ h => h) (Or.inl ⟨by rfl, ?ysa14⟩) (by assumption) ?rsa14
                case ysa14 => (intro w hSw; (try dsimp only at hSw); go_simp; (try with_reducible rfl))
                try simp only [Act.put, List.setIfInBounds_toArray, List.set_cons_zero, List.set_cons_succ]
                refine wpAnyH_take (i := 15) (oi := { dst := some 111, op := Op.binOp BinOp.sub 3 (Operand.tmp 110) (Operand.const (Value.int IntKind.i64 1)) 3, type := 3, pos := "law.go:101", after := #[{ on := 14, ground := Ground.data }, { on := 12, ground := Ground.guard }], guard := some (12, false) }) (v := ?vsa15) rfl (by kernel_rfl) (by kernel_rfl) (by kernel_rfl) (fun _ _ _ h => h) (Or.inl ⟨by rfl, ?ysa15⟩) (by assumption) ?rsa15
                case ysa15 => (intro w hSw; (try dsimp only at hSw); go_simp; (try with_reducible rfl))
                try simp only [Act.put, List.setIfInBounds_toArray, List.set_cons_zero, List.set_cons_succ]
                refine wpAnyH_take (i := 16) (oi := { dst := some 112, op := Op.indexAddr 32 (Operand.tmp 109) (Operand.tmp 111), type := 0, pos := "law.go:101", after := #[{ on := 13, ground := Ground.data }, { on := 15, ground := Ground.data }, { on := 12, ground := Ground.guard }], guard := some (12, false) }) (v := ?vsa16) rfl (by kernel_rfl) (by kernel_rfl) (by kernel_rfl) (fun _ _ _ h => h) (Or.inl ⟨by rfl, ?ysa16⟩) (by assumption) ?rsa16
                case ysa16 => (intro w hSw; (try dsimp only at hSw); go_simp; (try with_reducible rfl))
                try simp only [Act.put, List.setIfInBounds_toArray, List.set_cons_zero, List.set_cons_succ]
                refine wpAnyH_take (i := 17) (oi := { dst := some 113, op := Op.fieldAddr 26 (Operand.tmp 112) 0, type := 0, pos := "law.go:101", after := #[{ on := 16, ground := Ground.data }, { on := 12, ground := Ground.guard }], guard := some (12, false) }) (v := ?vsa17) rfl (by kernel_rfl) (by kernel_rfl) (by kernel_rfl) (fun _ _ _ h => h) (Or.inl ⟨by rfl, ?ysa17⟩) (by assumption) ?rsa17
                case ysa17 => (intro w hSw; (try dsimp only at hSw); go_simp; (try with_reducible rfl))
                try simp only [Act.put, List.setIfInBounds_toArray, List.set_cons_zero, List.set_cons_succ]
                refine wpAnyH_take (i := 18) (oi := { dst := some 114, op := Op.load 2 (Operand.tmp 113), type := 2, pos := "law.go:101", after := #[{ on := 17, ground := Ground.data }, { on := 12, ground := Ground.guard }], guard := some (12, false) }) (v := ?vsa18) rfl (by kernel_rfl) (by kernel_rfl) (by kernel_rfl) (fun _ _ _ h => h) (Or.inl ⟨by rfl, ?ysa18⟩) (by assumption) ?rsa18
                case ysa18 => (intro w hSw; (try dsimp only at hSw); go_simp; (try with_reducible rfl))
                try simp only [Act.put, List.setIfInBounds_toArray, List.set_cons_zero, List.set_cons_succ]
                refine wpAnyH_take (i := 19) (oi := { dst := some 115, op := Op.move (Operand.tmp 12), type := 32, pos := "law.go:101", after := #[{ on := 12, ground := Ground.guard }], guard := some (12, false) }) (v := ?vsa19) rfl (by kernel_rfl) (by kernel_rfl) (by kernel_rfl) (fun _ _ _ h => h) (Or.inl ⟨by rfl, ?ysa19⟩) (by assumption) ?rsa19
                case ysa19 => (intro w hSw; (try dsimp only at hSw); go_simp; (try with_reducible rfl))
                try simp only [Act.put, List.setIfInBounds_toArray, List.set_cons_zero, List.set_cons_succ]
                refine wpAnyH_take (i := 20) (oi := { dst := some 116, op := Op.move (Operand.tmp 13), type := 3, pos := "law.go:101", after := #[{ on := 12, ground := Ground.guard }], guard := some (12, false) }) (v := ?vsa20) rfl (by kernel_rfl) (by kernel_rfl) (by kernel_rfl) (fun _ _ _ h => h) (Or.inl ⟨by rfl, ?ysa20⟩) (by assumption) ?rsa20
                case ysa20 => (intro w hSw; (try dsimp only at hSw); go_simp; (try with_reducible rfl))
                try simp only [Act.put, List.setIfInBounds_toArray, List.set_cons_zero, List.set_cons_succ]
                refine wpAnyH_take (i := 21) (oi := { dst := some 117, op := Op.indexAddr 32 (Operand.tmp 115) (Operand.tmp 116), type := 0, pos := "law.go:101", after := #[{ on := 19, ground := Ground.data }, { on := 20, ground := Ground.data }, { on := 12, ground := Ground.guard }], guard := some (12, false) }) (v := ?vsa21) rfl (by kernel_rfl) (by kernel_rfl) (by kernel_rfl) (fun _ _ _ h => h) (Or.inl ⟨by rfl, ?ysa21⟩) (by assumption) ?rsa21
                case ysa21 => (intro w hSw; (try dsimp only at hSw); go_simp; (try with_reducible rfl))
                try simp only [Act.put, List.setIfInBounds_toArray, List.set_cons_zero, List.set_cons_succ]
                refine wpAnyH_take (i := 22) (oi := { dst := some 118, op := Op.fieldAddr 26 (Operand.tmp 117) 0, type := 0, pos := "law.go:101", after := #[{ on := 21, ground := Ground.data }, { on := 12, ground := Ground.guard }], guard := some (12, false) }) (v := ?vsa22) rfl (by kernel_rfl) (by kernel_rfl) (by kernel_rfl) (fun _ _ _ h => h) (Or.inl ⟨by rfl, ?ysa22⟩) (by assumption) ?rsa22
                case ysa22 => (intro w hSw; (try dsimp only at hSw); go_simp; (try with_reducible rfl))
                try simp only [Act.put, List.setIfInBounds_toArray, List.set_cons_zero, List.set_cons_succ]
                refine wpAnyH_take (i := 23) (oi := { dst := some 119, op := Op.load 2 (Operand.tmp 118), type := 2, pos := "law.go:101", after := #[{ on := 22, ground := Ground.data }, { on := 12, ground := Ground.guard }], guard := some (12, false) }) (v := ?vsa23) rfl (by kernel_rfl) (by kernel_rfl) (by kernel_rfl) (fun _ _ _ h => h) (Or.inl ⟨by rfl, ?ysa23⟩) (by assumption) ?rsa23
                case ysa23 => (intro w hSw; (try dsimp only at hSw); go_simp; (try with_reducible rfl))
                try simp only [Act.put, List.setIfInBounds_toArray, List.set_cons_zero, List.set_cons_succ]
                refine wpAnyH_take (i := 24) (oi := { dst := some 120, op := Op.binOp BinOp.eql 2 (Operand.tmp 114) (Operand.tmp 119) 2, type := 4, pos := "law.go:101", after := #[{ on := 18, ground := Ground.data }, { on := 23, ground := Ground.data }, { on := 12, ground := Ground.guard }], guard := some (12, false) }) (v := ?vsa24) rfl (by kernel_rfl) (by kernel_rfl) (by kernel_rfl) (fun _ _ _ h => h) (Or.inl ⟨by rfl, ?ysa24⟩) (by assumption) ?rsa24
                case ysa24 => (intro w hSw; (try dsimp only at hSw); go_simp; (try with_reducible rfl))
                try simp only [Act.put, List.setIfInBounds_toArray, List.set_cons_zero, List.set_cons_succ]
                refine wpAnyH_take (i := 25) (oi := { dst := some 121, op := Op.move (Operand.tmp 120), type := 4, pos := "law.go:101", after := #[{ on := 24, ground := Ground.data }, { on := 12, ground := Ground.chain }, { on := 12, ground := Ground.guard }], guard := some (12, false) }) (v := ?vsa25) rfl (by kernel_rfl) (by kernel_rfl) (by kernel_rfl) (fun _ _ _ h => h) (Or.inl ⟨by rfl, ?ysa25⟩) (by assumption) ?rsa25
                case ysa25 => (intro w hSw; (try dsimp only at hSw); go_simp; (try with_reducible rfl))
                try simp only [Act.put, List.setIfInBounds_toArray, List.set_cons_zero, List.set_cons_succ]
                refine wpAnyH_take (i := 26) (oi := { dst := some 122, op := Op.move (Operand.tmp 12), type := 32, pos := "law.go:101", after := #[{ on := 25, ground := Ground.guard }], guard := some (25, true) }) (v := undef) rfl (by kernel_rfl) (by kernel_rfl) (by kernel_rfl) (fun _ _ _ h => h) (Or.inr ⟨by rfl, rfl⟩) (by assumption) ?_
                try simp only [Act.put, List.setIfInBounds_toArray, List.set_cons_zero, List.set_cons_succ]
                refine wpAnyH_take (i := 27) (oi := { dst := some 123, op := Op.move (Operand.tmp 13), type := 3, pos := "law.go:101", after := #[{ on := 25, ground := Ground.guard }], guard := some (25, true) }) (v := undef) rfl (by kernel_rfl) (by kernel_rfl) (by kernel_rfl) (fun _ _ _ h => h) (Or.inr ⟨by rfl, rfl⟩) (by assumption) ?_
                try simp only [Act.put, List.setIfInBounds_toArray, List.set_cons_zero, List.set_cons_succ]
                refine wpAnyH_take (i := 28) (oi := { dst := some 124, op := Op.binOp BinOp.sub 3 (Operand.tmp 123) (Operand.const (Value.int IntKind.i64 1)) 3, type := 3, pos := "law.go:101", after := #[{ on := 27, ground := Ground.data }, { on := 25, ground := Ground.guard }], guard := some (25, true) }) (v := undef) rfl (by kernel_rfl) (by kernel_rfl) (by kernel_rfl) (fun _ _ _ h => h) (Or.inr ⟨by rfl, rfl⟩) (by assumption) ?_
                try simp only [Act.put, List.setIfInBounds_toArray, List.set_cons_zero, List.set_cons_succ]
                refine wpAnyH_take (i := 29) (oi := { dst := some 125, op := Op.indexAddr 32 (Operand.tmp 122) (Operand.tmp 124), type := 0, pos := "law.go:101", after := #[{ on := 26, ground := Ground.data }, { on := 28, ground := Ground.data }, { on := 25, ground := Ground.guard }], guard := some (25, true) }) (v := undef) rfl (by kernel_rfl) (by kernel_rfl) (by kernel_rfl) (fun _ _ _ h => h) (Or.inr ⟨by rfl, rfl⟩) (by assumption) ?_
                try simp only [Act.put, List.setIfInBounds_toArray, List.set_cons_zero, List.set_cons_succ]
                refine wpAnyH_take (i := 30) (oi := { dst := some 126, op := Op.fieldAddr 26 (Operand.tmp 125) 1, type := 0, pos := "law.go:101", after := #[{ on := 29, ground := Ground.data }, { on := 25, ground := Ground.guard }], guard := some (25, true) }) (v := undef) rfl (by kernel_rfl) (by kernel_rfl) (by kernel_rfl) (fun _ _ _ h => h) (Or.inr ⟨by rfl, rfl⟩) (by assumption) ?_
                try simp only [Act.put, List.setIfInBounds_toArray, List.set_cons_zero, List.set_cons_succ]
                refine wpAnyH_take (i := 31) (oi := { dst := some 127, op := Op.load 9 (Operand.tmp 126), type := 9, pos := "law.go:101", after := #[{ on := 30, ground := Ground.data }, { on := 25, ground := Ground.guard }], guard := some (25, true) }) (v := undef) rfl (by kernel_rfl) (by kernel_rfl) (by kernel_rfl) (fun _ _ _ h => h) (Or.inr ⟨by rfl, rfl⟩) (by assumption) ?_
                try simp only [Act.put, List.setIfInBounds_toArray, List.set_cons_zero, List.set_cons_succ]
                refine wpAnyH_take (i := 32) (oi := { dst := some 128, op := Op.move (Operand.tmp 12), type := 32, pos := "law.go:101", after := #[{ on := 25, ground := Ground.guard }], guard := some (25, true) }) (v := undef) rfl (by kernel_rfl) (by kernel_rfl) (by kernel_rfl) (fun _ _ _ h => h) (Or.inr ⟨by rfl, rfl⟩) (by assumption) ?_
                try simp only [Act.put, List.setIfInBounds_toArray, List.set_cons_zero, List.set_cons_succ]
                refine wpAnyH_take (i := 33) (oi := { dst := some 129, op := Op.move (Operand.tmp 13), type := 3, pos := "law.go:101", after := #[{ on := 25, ground := Ground.guard }], guard := some (25, true) }) (v := undef) rfl (by kernel_rfl) (by kernel_rfl) (by kernel_rfl) (fun _ _ _ h => h) (Or.inr ⟨by rfl, rfl⟩) (by assumption) ?_
                try simp only [Act.put, List.setIfInBounds_toArray, List.set_cons_zero, List.set_cons_succ]
                refine wpAnyH_take (i := 34) (oi := { dst := some 130, op := Op.indexAddr 32 (Operand.tmp 128) (Operand.tmp 129), type := 0, pos := "law.go:101", after := #[{ on := 32, ground := Ground.data }, { on := 33, ground := Ground.data }, { on := 25, ground := Ground.guard }], guard := some (25, true) }) (v := undef) rfl (by kernel_rfl) (by kernel_rfl) (by kernel_rfl) (fun _ _ _ h => h) (Or.inr ⟨by rfl, rfl⟩) (by assumption) ?_
                try simp only [Act.put, List.setIfInBounds_toArray, List.set_cons_zero, List.set_cons_succ]
                refine wpAnyH_take (i := 35) (oi := { dst := some 131, op := Op.fieldAddr 26 (Operand.tmp 130) 1, type := 0, pos := "law.go:101", after := #[{ on := 34, ground := Ground.data }, { on := 25, ground := Ground.guard }], guard := some (25, true) }) (v := undef) rfl (by kernel_rfl) (by kernel_rfl) (by kernel_rfl) (fun _ _ _ h => h) (Or.inr ⟨by rfl, rfl⟩) (by assumption) ?_
                try simp only [Act.put, List.setIfInBounds_toArray, List.set_cons_zero, List.set_cons_succ]
                refine wpAnyH_take (i := 36) (oi := { dst := some 132, op := Op.load 9 (Operand.tmp 131), type := 9, pos := "law.go:101", after := #[{ on := 35, ground := Ground.data }, { on := 25, ground := Ground.guard }], guard := some (25, true) }) (v := undef) rfl (by kernel_rfl) (by kernel_rfl) (by kernel_rfl) (fun _ _ _ h => h) (Or.inr ⟨by rfl, rfl⟩) (by assumption) ?_
                try simp only [Act.put, List.setIfInBounds_toArray, List.set_cons_zero, List.set_cons_succ]
                refine wpAnyH_take (i := 37) (oi := { dst := some 133, op := Op.binOp BinOp.geq 9 (Operand.tmp 127) (Operand.tmp 132) 9, type := 4, pos := "law.go:101", after := #[{ on := 31, ground := Ground.data }, { on := 36, ground := Ground.data }, { on := 25, ground := Ground.guard }], guard := some (25, true) }) (v := undef) rfl (by kernel_rfl) (by kernel_rfl) (by kernel_rfl) (fun _ _ _ h => h) (Or.inr ⟨by rfl, rfl⟩) (by assumption) ?_
                try simp only [Act.put, List.setIfInBounds_toArray, List.set_cons_zero, List.set_cons_succ]
                refine wpAnyH_take (i := 38) (oi := { dst := some 134, op := Op.pick (Operand.tmp 121) (Operand.tmp 133) (Operand.const (Value.bool false)), type := 4, pos := "law.go:101", after := #[{ on := 25, ground := Ground.data }, { on := 37, ground := Ground.data }, { on := 12, ground := Ground.guard }], guard := some (12, false) }) (v := ?vsa38) rfl (by kernel_rfl) (by kernel_rfl) (by kernel_rfl) (fun _ _ _ h => h) (Or.inl ⟨by rfl, ?ysa38⟩) (by assumption) ?rsa38
                case ysa38 => (intro w hSw; (try dsimp only at hSw); go_simp; (try with_reducible rfl))
                try simp only [Act.put, List.setIfInBounds_toArray, List.set_cons_zero, List.set_cons_succ]
                refine wpAnyH_take (i := 39) (oi := { dst := some 135, op := Op.pick (Operand.tmp 108) (Operand.const (Value.bool true)) (Operand.tmp 134), type := 4, pos := "law.go:101", after := #[{ on := 12, ground := Ground.data }, { on := 38, ground := Ground.data }], guard := none }) (v := ?vsa39) rfl (by kernel_rfl) (by kernel_rfl) (by kernel_rfl) (fun _ _ _ h => h) (Or.inl ⟨by rfl, ?ysa39⟩) (by assumption) ?rsa39
                case ysa39 => (intro w hSw; (try dsimp only at hSw); go_simp; (try with_reducible rfl))
                try simp only [Act.put, List.setIfInBounds_toArray, List.set_cons_zero, List.set_cons_succ]
                refine wpAnyH_done (by kernel_rfl) ?_ _
                go_wp2_with fail
                go_roundg (gk - 1)
                case measure => omega
                case rel => exact ⟨i + 1, by go_num, by omega, by omega, by omega, Lib.hid (bstep HBz.out ⟨rfl, rfl, rfl, Nat.le_refl _, fun _ _ => rfl⟩)⟩
              · have h1 : decide (z < z2) = false := decide_eq_false (by omega)
                have h2 : (z2 == z) = true := by rw [hlt]; exact beq_self_eq_true _
                clear hlt
                go_wp2_with fail
                refine wp_region_held_drew (S := fun w' : World => w'.cell? ⟨b, o + i * 2, none⟩ = some (.int .i64 z) ∧ w'.cell? ⟨b, o + i * 2 + 1, none⟩ = some (.string q) ∧ w'.cell? ⟨b, o + r * 2, none⟩ = some (.int .i64 z2) ∧ w'.cell? ⟨b, o + r * 2 + 1, none⟩ = some (.string q2)) (by kernel_rfl) ⟨e0, e1, d0, d1⟩ (fun hHeld => ?_)
                refine wpAnyH_take (i := 0) (oi := { dst := some 96, op := Op.move (Operand.tmp 12), type := 32, pos := "law.go:101", after := #[], guard := none }) (v := ?vsb0) rfl (by kernel_rfl) (by kernel_rfl) (by kernel_rfl) (fun _ _ _ h => h) (Or.inl ⟨by rfl, ?ysb0⟩) (by assumption) ?rsb0
                case ysb0 => (intro w hSw; (try dsimp only at hSw); go_simp; (try with_reducible rfl))
                try simp only [Act.put, List.setIfInBounds_toArray, List.set_cons_zero, List.set_cons_succ]
                refine wpAnyH_take (i := 1) (oi := { dst := some 97, op := Op.move (Operand.tmp 13), type := 3, pos := "law.go:101", after := #[], guard := none }) (v := ?vsb1) rfl (by kernel_rfl) (by kernel_rfl) (by kernel_rfl) (fun _ _ _ h => h) (Or.inl ⟨by rfl, ?ysb1⟩) (by assumption) ?rsb1
                case ysb1 => (intro w hSw; (try dsimp only at hSw); go_simp; (try with_reducible rfl))
                try simp only [Act.put, List.setIfInBounds_toArray, List.set_cons_zero, List.set_cons_succ]
                refine wpAnyH_take (i := 2) (oi := { dst := some 98, op := Op.binOp BinOp.sub 3 (Operand.tmp 97) (Operand.const (Value.int IntKind.i64 1)) 3, type := 3, pos := "law.go:101", after := #[{ on := 1, ground := Ground.data }], guard := none }) (v := ?vsb2) rfl (by kernel_rfl) (by kernel_rfl) (by kernel_rfl) (fun _ _ _ h => h) (Or.inl ⟨by rfl, ?ysb2⟩) (by assumption) ?rsb2
                case ysb2 => (intro w hSw; (try dsimp only at hSw); go_simp; (try with_reducible rfl))
                try simp only [Act.put, List.setIfInBounds_toArray, List.set_cons_zero, List.set_cons_succ]
                refine wpAnyH_take (i := 3) (oi := { dst := some 99, op := Op.indexAddr 32 (Operand.tmp 96) (Operand.tmp 98), type := 0, pos := "law.go:101", after := #[{ on := 0, ground := Ground.data }, { on := 2, ground := Ground.data }], guard := none }) (v := ?vsb3) rfl (by kernel_rfl) (by kernel_rfl) (by kernel_rfl) (fun _ _ _ h => h) (Or.inl ⟨by rfl, ?ysb3⟩) (by assumption) ?rsb3
                case ysb3 => (intro w hSw; (try dsimp only at hSw); go_simp; (try with_reducible rfl))
                try simp only [Act.put, List.setIfInBounds_toArray, List.set_cons_zero, List.set_cons_succ]
                refine wpAnyH_take (i := 4) (oi := { dst := some 100, op := Op.fieldAddr 26 (Operand.tmp 99) 0, type := 0, pos := "law.go:101", after := #[{ on := 3, ground := Ground.data }], guard := none }) (v := ?vsb4) rfl (by kernel_rfl) (by kernel_rfl) (by kernel_rfl) (fun _ _ _ h => h) (Or.inl ⟨by rfl, ?ysb4⟩) (by assumption) ?rsb4
                case ysb4 => (intro w hSw; (try dsimp only at hSw); go_simp; (try with_reducible rfl))
                try simp only [Act.put, List.setIfInBounds_toArray, List.set_cons_zero, List.set_cons_succ]
                refine wpAnyH_take (i := 5) (oi := { dst := some 101, op := Op.load 2 (Operand.tmp 100), type := 2, pos := "law.go:101", after := #[{ on := 4, ground := Ground.data }], guard := none }) (v := ?vsb5) rfl (by kernel_rfl) (by kernel_rfl) (by kernel_rfl) (fun _ _ _ h => h) (Or.inl ⟨by rfl, ?ysb5⟩) (by assumption) ?rsb5
                case ysb5 => (intro w hSw; (try dsimp only at hSw); go_simp; (try with_reducible rfl))
                try simp only [Act.put, List.setIfInBounds_toArray, List.set_cons_zero, List.set_cons_succ]
                refine wpAnyH_take (i := 6) (oi := { dst := some 102, op := Op.move (Operand.tmp 12), type := 32, pos := "law.go:101", after := #[], guard := none }) (v := ?vsb6) rfl (by kernel_rfl) (by kernel_rfl) (by kernel_rfl) (fun _ _ _ h => h) (Or.inl ⟨by rfl, ?ysb6⟩) (by assumption) ?rsb6
                case ysb6 => (intro w hSw; (try dsimp only at hSw); go_simp; (try with_reducible rfl))
                try simp only [Act.put, List.setIfInBounds_toArray, List.set_cons_zero, List.set_cons_succ]
                refine wpAnyH_take (i := 7) (oi := { dst := some 103, op := Op.move (Operand.tmp 13), type := 3, pos := "law.go:101", after := #[], guard := none }) (v := ?vsb7) rfl (by kernel_rfl) (by kernel_rfl) (by kernel_rfl) (fun _ _ _ h => h) (Or.inl ⟨by rfl, ?ysb7⟩) (by assumption) ?rsb7
                case ysb7 => (intro w hSw; (try dsimp only at hSw); go_simp; (try with_reducible rfl))
                try simp only [Act.put, List.setIfInBounds_toArray, List.set_cons_zero, List.set_cons_succ]
                refine wpAnyH_take (i := 8) (oi := { dst := some 104, op := Op.indexAddr 32 (Operand.tmp 102) (Operand.tmp 103), type := 0, pos := "law.go:101", after := #[{ on := 6, ground := Ground.data }, { on := 7, ground := Ground.data }], guard := none }) (v := ?vsb8) rfl (by kernel_rfl) (by kernel_rfl) (by kernel_rfl) (fun _ _ _ h => h) (Or.inl ⟨by rfl, ?ysb8⟩) (by assumption) ?rsb8
                case ysb8 => (intro w hSw; (try dsimp only at hSw); go_simp; (try with_reducible rfl))
                try simp only [Act.put, List.setIfInBounds_toArray, List.set_cons_zero, List.set_cons_succ]
                refine wpAnyH_take (i := 9) (oi := { dst := some 105, op := Op.fieldAddr 26 (Operand.tmp 104) 0, type := 0, pos := "law.go:101", after := #[{ on := 8, ground := Ground.data }], guard := none }) (v := ?vsb9) rfl (by kernel_rfl) (by kernel_rfl) (by kernel_rfl) (fun _ _ _ h => h) (Or.inl ⟨by rfl, ?ysb9⟩) (by assumption) ?rsb9
                case ysb9 => (intro w hSw; (try dsimp only at hSw); go_simp; (try with_reducible rfl))
                try simp only [Act.put, List.setIfInBounds_toArray, List.set_cons_zero, List.set_cons_succ]
                refine wpAnyH_take (i := 10) (oi := { dst := some 106, op := Op.load 2 (Operand.tmp 105), type := 2, pos := "law.go:101", after := #[{ on := 9, ground := Ground.data }], guard := none }) (v := ?vsb10) rfl (by kernel_rfl) (by kernel_rfl) (by kernel_rfl) (fun _ _ _ h => h) (Or.inl ⟨by rfl, ?ysb10⟩) (by assumption) ?rsb10
                case ysb10 => (intro w hSw; (try dsimp only at hSw); go_simp; (try with_reducible rfl))
                try simp only [Act.put, List.setIfInBounds_toArray, List.set_cons_zero, List.set_cons_succ]
                refine wpAnyH_take (i := 11) (oi := { dst := some 107, op := Op.binOp BinOp.gtr 2 (Operand.tmp 101) (Operand.tmp 106) 2, type := 4, pos := "law.go:101", after := #[{ on := 5, ground := Ground.data }, { on := 10, ground := Ground.data }], guard := none }) (v := ?vsb11) rfl (by kernel_rfl) (by kernel_rfl) (by kernel_rfl) (fun _ _ _ h => h) (Or.inl ⟨by rfl, ?ysb11⟩) (by assumption) ?rsb11
                case ysb11 => (intro w hSw; (try dsimp only at hSw); go_simp; (try with_reducible rfl))
                try simp only [Act.put, List.setIfInBounds_toArray, List.set_cons_zero, List.set_cons_succ]
                refine wpAnyH_take (i := 12) (oi := { dst := some 108, op := Op.move (Operand.tmp 107), type := 4, pos := "law.go:101", after := #[{ on := 11, ground := Ground.data }], guard := none }) (v := ?vsb12) rfl (by kernel_rfl) (by kernel_rfl) (by kernel_rfl) (fun _ _ _ h => h) (Or.inl ⟨by rfl, ?ysb12⟩) (by assumption) ?rsb12
                case ysb12 => (intro w hSw; (try dsimp only at hSw); go_simp; (try with_reducible rfl))
                try simp only [Act.put, List.setIfInBounds_toArray, List.set_cons_zero, List.set_cons_succ]
                refine wpAnyH_take (i := 13) (oi := { dst := some 109, op := Op.move (Operand.tmp 12), type := 32, pos := "law.go:101", after := #[{ on := 12, ground := Ground.guard }], guard := some (12, false) }) (v := ?vsb13) rfl (by kernel_rfl) (by kernel_rfl) (by kernel_rfl) (fun _ _ _ h => h) (Or.inl ⟨by rfl, ?ysb13⟩) (by assumption) ?rsb13
                case ysb13 => (intro w hSw; (try dsimp only at hSw); go_simp; (try with_reducible rfl))
                try simp only [Act.put, List.setIfInBounds_toArray, List.set_cons_zero, List.set_cons_succ]
                refine wpAnyH_take (i := 14) (oi := { dst := some 110, op := Op.move (Operand.tmp 13), type := 3, pos := "law.go:101", after := #[{ on := 12, ground := Ground.guard }], guard := some (12, false) }) (v := ?vsb14) rfl (by kernel_rfl) (by kernel_rfl) (by kernel_rfl) (fun _ _ _ h => h) (Or.inl ⟨by rfl, ?ysb14⟩) (by assumption) ?rsb14
                case ysb14 => (intro w hSw; (try dsimp only at hSw); go_simp; (try with_reducible rfl))
                try simp only [Act.put, List.setIfInBounds_toArray, List.set_cons_zero, List.set_cons_succ]
                refine wpAnyH_take (i := 15) (oi := { dst := some 111, op := Op.binOp BinOp.sub 3 (Operand.tmp 110) (Operand.const (Value.int IntKind.i64 1)) 3, type := 3, pos := "law.go:101", after := #[{ on := 14, ground := Ground.data }, { on := 12, ground := Ground.guard }], guard := some (12, false) }) (v := ?vsb15) rfl (by kernel_rfl) (by kernel_rfl) (by kernel_rfl) (fun _ _ _ h => h) (Or.inl ⟨by rfl, ?ysb15⟩) (by assumption) ?rsb15
                case ysb15 => (intro w hSw; (try dsimp only at hSw); go_simp; (try with_reducible rfl))
                try simp only [Act.put, List.setIfInBounds_toArray, List.set_cons_zero, List.set_cons_succ]
                refine wpAnyH_take (i := 16) (oi := { dst := some 112, op := Op.indexAddr 32 (Operand.tmp 109) (Operand.tmp 111), type := 0, pos := "law.go:101", after := #[{ on := 13, ground := Ground.data }, { on := 15, ground := Ground.data }, { on := 12, ground := Ground.guard }], guard := some (12, false) }) (v := ?vsb16) rfl (by kernel_rfl) (by kernel_rfl) (by kernel_rfl) (fun _ _ _ h => h) (Or.inl ⟨by rfl, ?ysb16⟩) (by assumption) ?rsb16
                case ysb16 => (intro w hSw; (try dsimp only at hSw); go_simp; (try with_reducible rfl))
                try simp only [Act.put, List.setIfInBounds_toArray, List.set_cons_zero, List.set_cons_succ]
                refine wpAnyH_take (i := 17) (oi := { dst := some 113, op := Op.fieldAddr 26 (Operand.tmp 112) 0, type := 0, pos := "law.go:101", after := #[{ on := 16, ground := Ground.data }, { on := 12, ground := Ground.guard }], guard := some (12, false) }) (v := ?vsb17) rfl (by kernel_rfl) (by kernel_rfl) (by kernel_rfl) (fun _ _ _ h => h) (Or.inl ⟨by rfl, ?ysb17⟩) (by assumption) ?rsb17
                case ysb17 => (intro w hSw; (try dsimp only at hSw); go_simp; (try with_reducible rfl))
                try simp only [Act.put, List.setIfInBounds_toArray, List.set_cons_zero, List.set_cons_succ]
                refine wpAnyH_take (i := 18) (oi := { dst := some 114, op := Op.load 2 (Operand.tmp 113), type := 2, pos := "law.go:101", after := #[{ on := 17, ground := Ground.data }, { on := 12, ground := Ground.guard }], guard := some (12, false) }) (v := ?vsb18) rfl (by kernel_rfl) (by kernel_rfl) (by kernel_rfl) (fun _ _ _ h => h) (Or.inl ⟨by rfl, ?ysb18⟩) (by assumption) ?rsb18
                case ysb18 => (intro w hSw; (try dsimp only at hSw); go_simp; (try with_reducible rfl))
                try simp only [Act.put, List.setIfInBounds_toArray, List.set_cons_zero, List.set_cons_succ]
                refine wpAnyH_take (i := 19) (oi := { dst := some 115, op := Op.move (Operand.tmp 12), type := 32, pos := "law.go:101", after := #[{ on := 12, ground := Ground.guard }], guard := some (12, false) }) (v := ?vsb19) rfl (by kernel_rfl) (by kernel_rfl) (by kernel_rfl) (fun _ _ _ h => h) (Or.inl ⟨by rfl, ?ysb19⟩) (by assumption) ?rsb19
                case ysb19 => (intro w hSw; (try dsimp only at hSw); go_simp; (try with_reducible rfl))
                try simp only [Act.put, List.setIfInBounds_toArray, List.set_cons_zero, List.set_cons_succ]
                refine wpAnyH_take (i := 20) (oi := { dst := some 116, op := Op.move (Operand.tmp 13), type := 3, pos := "law.go:101", after := #[{ on := 12, ground := Ground.guard }], guard := some (12, false) }) (v := ?vsb20) rfl (by kernel_rfl) (by kernel_rfl) (by kernel_rfl) (fun _ _ _ h => h) (Or.inl ⟨by rfl, ?ysb20⟩) (by assumption) ?rsb20
                case ysb20 => (intro w hSw; (try dsimp only at hSw); go_simp; (try with_reducible rfl))
                try simp only [Act.put, List.setIfInBounds_toArray, List.set_cons_zero, List.set_cons_succ]
                refine wpAnyH_take (i := 21) (oi := { dst := some 117, op := Op.indexAddr 32 (Operand.tmp 115) (Operand.tmp 116), type := 0, pos := "law.go:101", after := #[{ on := 19, ground := Ground.data }, { on := 20, ground := Ground.data }, { on := 12, ground := Ground.guard }], guard := some (12, false) }) (v := ?vsb21) rfl (by kernel_rfl) (by kernel_rfl) (by kernel_rfl) (fun _ _ _ h => h) (Or.inl ⟨by rfl, ?ysb21⟩) (by assumption) ?rsb21
                case ysb21 => (intro w hSw; (try dsimp only at hSw); go_simp; (try with_reducible rfl))
                try simp only [Act.put, List.setIfInBounds_toArray, List.set_cons_zero, List.set_cons_succ]
                refine wpAnyH_take (i := 22) (oi := { dst := some 118, op := Op.fieldAddr 26 (Operand.tmp 117) 0, type := 0, pos := "law.go:101", after := #[{ on := 21, ground := Ground.data }, { on := 12, ground := Ground.guard }], guard := some (12, false) }) (v := ?vsb22) rfl (by kernel_rfl) (by kernel_rfl) (by kernel_rfl) (fun _ _ _ h => h) (Or.inl ⟨by rfl, ?ysb22⟩) (by assumption) ?rsb22
                case ysb22 => (intro w hSw; (try dsimp only at hSw); go_simp; (try with_reducible rfl))
                try simp only [Act.put, List.setIfInBounds_toArray, List.set_cons_zero, List.set_cons_succ]
                refine wpAnyH_take (i := 23) (oi := { dst := some 119, op := Op.load 2 (Operand.tmp 118), type := 2, pos := "law.go:101", after := #[{ on := 22, ground := Ground.data }, { on := 12, ground := Ground.guard }], guard := some (12, false) }) (v := ?vsb23) rfl (by kernel_rfl) (by kernel_rfl) (by kernel_rfl) (fun _ _ _ h => h) (Or.inl ⟨by rfl, ?ysb23⟩) (by assumption) ?rsb23
                case ysb23 => (intro w hSw; (try dsimp only at hSw); go_simp; (try with_reducible rfl))
                try simp only [Act.put, List.setIfInBounds_toArray, List.set_cons_zero, List.set_cons_succ]
                refine wpAnyH_take (i := 24) (oi := { dst := some 120, op := Op.binOp BinOp.eql 2 (Operand.tmp 114) (Operand.tmp 119) 2, type := 4, pos := "law.go:101", after := #[{ on := 18, ground := Ground.data }, { on := 23, ground := Ground.data }, { on := 12, ground := Ground.guard }], guard := some (12, false) }) (v := ?vsb24) rfl (by kernel_rfl) (by kernel_rfl) (by kernel_rfl) (fun _ _ _ h => h) (Or.inl ⟨by rfl, ?ysb24⟩) (by assumption) ?rsb24
                case ysb24 => (intro w hSw; (try dsimp only at hSw); go_simp; (try with_reducible rfl))
                try simp only [Act.put, List.setIfInBounds_toArray, List.set_cons_zero, List.set_cons_succ]
                refine wpAnyH_take (i := 25) (oi := { dst := some 121, op := Op.move (Operand.tmp 120), type := 4, pos := "law.go:101", after := #[{ on := 24, ground := Ground.data }, { on := 12, ground := Ground.chain }, { on := 12, ground := Ground.guard }], guard := some (12, false) }) (v := ?vsb25) rfl (by kernel_rfl) (by kernel_rfl) (by kernel_rfl) (fun _ _ _ h => h) (Or.inl ⟨by rfl, ?ysb25⟩) (by assumption) ?rsb25
                case ysb25 => (intro w hSw; (try dsimp only at hSw); go_simp; (try with_reducible rfl))
                try simp only [Act.put, List.setIfInBounds_toArray, List.set_cons_zero, List.set_cons_succ]
                refine wpAnyH_take (i := 26) (oi := { dst := some 122, op := Op.move (Operand.tmp 12), type := 32, pos := "law.go:101", after := #[{ on := 25, ground := Ground.guard }], guard := some (25, true) }) (v := ?vsb26) rfl (by kernel_rfl) (by kernel_rfl) (by kernel_rfl) (fun _ _ _ h => h) (Or.inl ⟨by rfl, ?ysb26⟩) (by assumption) ?rsb26
                case ysb26 => (intro w hSw; (try dsimp only at hSw); go_simp; (try with_reducible rfl))
                try simp only [Act.put, List.setIfInBounds_toArray, List.set_cons_zero, List.set_cons_succ]
                refine wpAnyH_take (i := 27) (oi := { dst := some 123, op := Op.move (Operand.tmp 13), type := 3, pos := "law.go:101", after := #[{ on := 25, ground := Ground.guard }], guard := some (25, true) }) (v := ?vsb27) rfl (by kernel_rfl) (by kernel_rfl) (by kernel_rfl) (fun _ _ _ h => h) (Or.inl ⟨by rfl, ?ysb27⟩) (by assumption) ?rsb27
                case ysb27 => (intro w hSw; (try dsimp only at hSw); go_simp; (try with_reducible rfl))
                try simp only [Act.put, List.setIfInBounds_toArray, List.set_cons_zero, List.set_cons_succ]
                refine wpAnyH_take (i := 28) (oi := { dst := some 124, op := Op.binOp BinOp.sub 3 (Operand.tmp 123) (Operand.const (Value.int IntKind.i64 1)) 3, type := 3, pos := "law.go:101", after := #[{ on := 27, ground := Ground.data }, { on := 25, ground := Ground.guard }], guard := some (25, true) }) (v := ?vsb28) rfl (by kernel_rfl) (by kernel_rfl) (by kernel_rfl) (fun _ _ _ h => h) (Or.inl ⟨by rfl, ?ysb28⟩) (by assumption) ?rsb28
                case ysb28 => (intro w hSw; (try dsimp only at hSw); go_simp; (try with_reducible rfl))
                try simp only [Act.put, List.setIfInBounds_toArray, List.set_cons_zero, List.set_cons_succ]
                refine wpAnyH_take (i := 29) (oi := { dst := some 125, op := Op.indexAddr 32 (Operand.tmp 122) (Operand.tmp 124), type := 0, pos := "law.go:101", after := #[{ on := 26, ground := Ground.data }, { on := 28, ground := Ground.data }, { on := 25, ground := Ground.guard }], guard := some (25, true) }) (v := ?vsb29) rfl (by kernel_rfl) (by kernel_rfl) (by kernel_rfl) (fun _ _ _ h => h) (Or.inl ⟨by rfl, ?ysb29⟩) (by assumption) ?rsb29
                case ysb29 => (intro w hSw; (try dsimp only at hSw); go_simp; (try with_reducible rfl))
                try simp only [Act.put, List.setIfInBounds_toArray, List.set_cons_zero, List.set_cons_succ]
                refine wpAnyH_take (i := 30) (oi := { dst := some 126, op := Op.fieldAddr 26 (Operand.tmp 125) 1, type := 0, pos := "law.go:101", after := #[{ on := 29, ground := Ground.data }, { on := 25, ground := Ground.guard }], guard := some (25, true) }) (v := ?vsb30) rfl (by kernel_rfl) (by kernel_rfl) (by kernel_rfl) (fun _ _ _ h => h) (Or.inl ⟨by rfl, ?ysb30⟩) (by assumption) ?rsb30
                case ysb30 => (intro w hSw; (try dsimp only at hSw); go_simp; (try with_reducible rfl))
                try simp only [Act.put, List.setIfInBounds_toArray, List.set_cons_zero, List.set_cons_succ]
                refine wpAnyH_take (i := 31) (oi := { dst := some 127, op := Op.load 9 (Operand.tmp 126), type := 9, pos := "law.go:101", after := #[{ on := 30, ground := Ground.data }, { on := 25, ground := Ground.guard }], guard := some (25, true) }) (v := ?vsb31) rfl (by kernel_rfl) (by kernel_rfl) (by kernel_rfl) (fun _ _ _ h => h) (Or.inl ⟨by rfl, ?ysb31⟩) (by assumption) ?rsb31
                case ysb31 => (intro w hSw; (try dsimp only at hSw); go_simp; (try with_reducible rfl))
                try simp only [Act.put, List.setIfInBounds_toArray, List.set_cons_zero, List.set_cons_succ]
                refine wpAnyH_take (i := 32) (oi := { dst := some 128, op := Op.move (Operand.tmp 12), type := 32, pos := "law.go:101", after := #[{ on := 25, ground := Ground.guard }], guard := some (25, true) }) (v := ?vsb32) rfl (by kernel_rfl) (by kernel_rfl) (by kernel_rfl) (fun _ _ _ h => h) (Or.inl ⟨by rfl, ?ysb32⟩) (by assumption) ?rsb32
                case ysb32 => (intro w hSw; (try dsimp only at hSw); go_simp; (try with_reducible rfl))
                try simp only [Act.put, List.setIfInBounds_toArray, List.set_cons_zero, List.set_cons_succ]
                refine wpAnyH_take (i := 33) (oi := { dst := some 129, op := Op.move (Operand.tmp 13), type := 3, pos := "law.go:101", after := #[{ on := 25, ground := Ground.guard }], guard := some (25, true) }) (v := ?vsb33) rfl (by kernel_rfl) (by kernel_rfl) (by kernel_rfl) (fun _ _ _ h => h) (Or.inl ⟨by rfl, ?ysb33⟩) (by assumption) ?rsb33
                case ysb33 => (intro w hSw; (try dsimp only at hSw); go_simp; (try with_reducible rfl))
                try simp only [Act.put, List.setIfInBounds_toArray, List.set_cons_zero, List.set_cons_succ]
                refine wpAnyH_take (i := 34) (oi := { dst := some 130, op := Op.indexAddr 32 (Operand.tmp 128) (Operand.tmp 129), type := 0, pos := "law.go:101", after := #[{ on := 32, ground := Ground.data }, { on := 33, ground := Ground.data }, { on := 25, ground := Ground.guard }], guard := some (25, true) }) (v := ?vsb34) rfl (by kernel_rfl) (by kernel_rfl) (by kernel_rfl) (fun _ _ _ h => h) (Or.inl ⟨by rfl, ?ysb34⟩) (by assumption) ?rsb34
                case ysb34 => (intro w hSw; (try dsimp only at hSw); go_simp; (try with_reducible rfl))
                try simp only [Act.put, List.setIfInBounds_toArray, List.set_cons_zero, List.set_cons_succ]
                refine wpAnyH_take (i := 35) (oi := { dst := some 131, op := Op.fieldAddr 26 (Operand.tmp 130) 1, type := 0, pos := "law.go:101", after := #[{ on := 34, ground := Ground.data }, { on := 25, ground := Ground.guard }], guard := some (25, true) }) (v := ?vsb35) rfl (by kernel_rfl) (by kernel_rfl) (by kernel_rfl) (fun _ _ _ h => h) (Or.inl ⟨by rfl, ?ysb35⟩) (by assumption) ?rsb35
                case ysb35 => (intro w hSw; (try dsimp only at hSw); go_simp; (try with_reducible rfl))
                try simp only [Act.put, List.setIfInBounds_toArray, List.set_cons_zero, List.set_cons_succ]
                refine wpAnyH_take (i := 36) (oi := { dst := some 132, op := Op.load 9 (Operand.tmp 131), type := 9, pos := "law.go:101", after := #[{ on := 35, ground := Ground.data }, { on := 25, ground := Ground.guard }], guard := some (25, true) }) (v := ?vsb36) rfl (by kernel_rfl) (by kernel_rfl) (by kernel_rfl) (fun _ _ _ h => h) (Or.inl ⟨by rfl, ?ysb36⟩) (by assumption) ?rsb36
                case ysb36 => (intro w hSw; (try dsimp only at hSw); go_simp; (try with_reducible rfl))
                try simp only [Act.put, List.setIfInBounds_toArray, List.set_cons_zero, List.set_cons_succ]
                refine wpAnyH_take (i := 37) (oi := { dst := some 133, op := Op.binOp BinOp.geq 9 (Operand.tmp 127) (Operand.tmp 132) 9, type := 4, pos := "law.go:101", after := #[{ on := 31, ground := Ground.data }, { on := 36, ground := Ground.data }, { on := 25, ground := Ground.guard }], guard := some (25, true) }) (v := ?vsb37) rfl (by kernel_rfl) (by kernel_rfl) (by kernel_rfl) (fun _ _ _ h => h) (Or.inl ⟨by rfl, ?ysb37⟩) (by assumption) ?rsb37
                case ysb37 => (intro w hSw; (try dsimp only at hSw); go_simp; (try with_reducible rfl))
                try simp only [Act.put, List.setIfInBounds_toArray, List.set_cons_zero, List.set_cons_succ]
                refine wpAnyH_take (i := 38) (oi := { dst := some 134, op := Op.pick (Operand.tmp 121) (Operand.tmp 133) (Operand.const (Value.bool false)), type := 4, pos := "law.go:101", after := #[{ on := 25, ground := Ground.data }, { on := 37, ground := Ground.data }, { on := 12, ground := Ground.guard }], guard := some (12, false) }) (v := ?vsb38) rfl (by kernel_rfl) (by kernel_rfl) (by kernel_rfl) (fun _ _ _ h => h) (Or.inl ⟨by rfl, ?ysb38⟩) (by assumption) ?rsb38
                case ysb38 => (intro w hSw; (try dsimp only at hSw); go_simp; (try with_reducible rfl))
                try simp only [Act.put, List.setIfInBounds_toArray, List.set_cons_zero, List.set_cons_succ]
                refine wpAnyH_take (i := 39) (oi := { dst := some 135, op := Op.pick (Operand.tmp 108) (Operand.const (Value.bool true)) (Operand.tmp 134), type := 4, pos := "law.go:101", after := #[{ on := 12, ground := Ground.data }, { on := 38, ground := Ground.data }], guard := none }) (v := ?vsb39) rfl (by kernel_rfl) (by kernel_rfl) (by kernel_rfl) (fun _ _ _ h => h) (Or.inl ⟨by rfl, ?ysb39⟩) (by assumption) ?rsb39
                case ysb39 => (intro w hSw; (try dsimp only at hSw); go_simp; (try with_reducible rfl))
                try simp only [Act.put, List.setIfInBounds_toArray, List.set_cons_zero, List.set_cons_succ]
                refine wpAnyH_done (by kernel_rfl) ?_ _
                go_wp2_with fail
                go_roundg (gk - 1)
                case measure => omega
                case rel => exact ⟨i + 1, by go_num, by omega, by omega, by omega, Lib.hid (bstep HBz.out ⟨rfl, rfl, rfl, Nat.le_refl _, fun _ _ => rfl⟩)⟩
            case neg =>
              have hic : ¬ ((i : Int) < (S.length : Int)) := by omega
              have H11 := Lib.hid (H10.out.bel HBz.out)
              clear H10 HBz
              go_wp2_with fail
              have HD1 := Lib.hid ((H11.out.bel (w' := wr.drew) ⟨rfl, rfl, rfl, Nat.le_refl _, fun _ _ => rfl⟩).left.due (Nat.le_trans HLe.out (by decide)) (min t0 t1) 100 (by decide) (by decide))
              have HDb := Lib.hid (fun W (hW : Below wr.drew.heap.size wr.drew W) => ((H11.out.bel (w' := wr.drew) ⟨rfl, rfl, rfl, Nat.le_refl _, fun _ _ => rfl⟩).bel hW).symm.left.due (Nat.le_trans HLe.out (by decide)) (max t0 t1) 100 (by decide) (by decide))
              have HBw := Lib.hid (fun W (hW : Below wr.drew.heap.size wr.drew W) => HB2.out.trans (((H11.out.bel (w' := wr.drew) ⟨rfl, rfl, rfl, Nat.le_refl _, fun _ _ => rfl⟩).bel hW).below.mono HB2.out.size))
              have S0 : Hid ((fun w' : World => w'.cell? ⟨A, 0, none⟩ = some (.int .i64 t0) ∧ w'.cell? ⟨A, 0 + 1, none⟩ = some (.int .i64 t1)) wr.drew) := Lib.hid (show wr.cell? ⟨A, 0, none⟩ = some (.int .i64 t0) ∧ wr.cell? ⟨A, 0 + 1, none⟩ = some (.int .i64 t1) from ⟨cell_bel4 H11.out.below HC.out.1, cell_bel4 H11.out.below HC.out.2⟩)
              have HPre := Lib.hid (due_pre HUp.out (a := min t0 t1) (b := max t0 t1) (by omega) 100)
              have HPle := Lib.hid (due_le HUp.out (a := min t0 t1) (b := max t0 t1) (by omega) 100)
              have HQl : Hid ((dueD (min t0 t1) (100 : Int).toNat S).length ≤ 60) := Lib.hid (Nat.le_trans (Nat.le_trans (List.length_take_le' _ _) (List.length_filter_le _ _)) HLe.out)
              rw [show (100 : Int).toNat = 100 from rfl] at HD1 HDb HQl
              generalize dueD (min t0 t1) 100 S = Q1 at *
              generalize dueD (max t0 t1) 100 S = Q2 at *
              generalize hmin : min t0 t1 = tm at *
              generalize hmax : max t0 t1 = tM at *
              refine wp_region_held_drew (S := fun w' : World => w'.cell? ⟨A, 0, none⟩ = some (.int .i64 t0) ∧ w'.cell? ⟨A, 0 + 1, none⟩ = some (.int .i64 t1)) (by kernel_rfl) S0.out (fun hHeld => ?_)
              refine wpAnyH_take (i := 0) (oi := { dst := some 136, op := Op.move (Operand.tmp 5), type := 23, pos := "law.go:105", after := #[], guard := none }) (v := ?vq0) rfl (by kernel_rfl) (by kernel_rfl) (by kernel_rfl) (fun _ _ _ h => h) (Or.inl ⟨by rfl, ?yq0⟩) (by assumption) ?rq0
              case yq0 => (intro w hSw; (try dsimp only at hSw); go_simp; (try with_reducible rfl))
              try simp only [Act.put, List.setIfInBounds_toArray, List.set_cons_zero, List.set_cons_succ]
              refine wpAnyH_take (i := 1) (oi := { dst := some 137, op := Op.indexAddr 51 (Operand.tmp 3) (Operand.const (Value.int IntKind.i64 0)), type := 0, pos := "law.go:105", after := #[], guard := none }) (v := ?vq1) rfl (by kernel_rfl) (by kernel_rfl) (by kernel_rfl) (fun _ _ _ h => h) (Or.inl ⟨by rfl, ?yq1⟩) (by assumption) ?rq1
              case yq1 => (intro w hSw; (try dsimp only at hSw); go_simp; (try with_reducible rfl))
              try simp only [Act.put, List.setIfInBounds_toArray, List.set_cons_zero, List.set_cons_succ]
              refine wpAnyH_take (i := 2) (oi := { dst := some 138, op := Op.load 2 (Operand.tmp 137), type := 2, pos := "law.go:105", after := #[{ on := 1, ground := Ground.data }], guard := none }) (v := ?vq2) rfl (by kernel_rfl) (by kernel_rfl) (by kernel_rfl) (fun _ _ _ h => h) (Or.inl ⟨by rfl, ?yq2⟩) (by assumption) ?rq2
              case yq2 => (intro w hSw; (try dsimp only at hSw); go_simp; (try with_reducible rfl))
              try simp only [Act.put, List.setIfInBounds_toArray, List.set_cons_zero, List.set_cons_succ]
              refine wpAnyH_take (i := 3) (oi := { dst := some 139, op := Op.indexAddr 51 (Operand.tmp 3) (Operand.const (Value.int IntKind.i64 1)), type := 0, pos := "law.go:105", after := #[], guard := none }) (v := ?vq3) rfl (by kernel_rfl) (by kernel_rfl) (by kernel_rfl) (fun _ _ _ h => h) (Or.inl ⟨by rfl, ?yq3⟩) (by assumption) ?rq3
              case yq3 => (intro w hSw; (try dsimp only at hSw); go_simp; (try with_reducible rfl))
              try simp only [Act.put, List.setIfInBounds_toArray, List.set_cons_zero, List.set_cons_succ]
              refine wpAnyH_take (i := 4) (oi := { dst := some 140, op := Op.load 2 (Operand.tmp 139), type := 2, pos := "law.go:105", after := #[{ on := 3, ground := Ground.data }], guard := none }) (v := ?vq4) rfl (by kernel_rfl) (by kernel_rfl) (by kernel_rfl) (fun _ _ _ h => h) (Or.inl ⟨by rfl, ?yq4⟩) (by assumption) ?rq4
              case yq4 => (intro w hSw; (try dsimp only at hSw); go_simp; (try with_reducible rfl))
              try simp only [Act.put, List.setIfInBounds_toArray, List.set_cons_zero, List.set_cons_succ]
              refine wpAnyH_take (i := 5) (oi := { dst := some 141, op := Op.call { callee := Callee.builtin Builtin.min, args := #[Operand.tmp 138, Operand.tmp 140], argTypes := #[2, 2] }, type := 2, pos := "law.go:105", after := #[{ on := 2, ground := Ground.data }, { on := 4, ground := Ground.data }], guard := none }) (v := ?vq5) rfl (by kernel_rfl) (by kernel_rfl) (by kernel_rfl) (fun _ _ _ h => h) (Or.inl ⟨by rfl, ?yq5⟩) (by assumption) ?rq5
              case yq5 => (intro w hSw; (try dsimp only at hSw); go_simp; (try with_reducible rfl))
              try simp only [Act.put, List.setIfInBounds_toArray, List.set_cons_zero, List.set_cons_succ]
              refine wpAnyH_take (i := 7) (oi := { dst := some 143, op := Op.move (Operand.tmp 6), type := 23, pos := "law.go:105", after := #[], guard := none }) (v := ?vq7) rfl (by kernel_rfl) (by kernel_rfl) (by kernel_rfl) (fun _ _ _ h => h) (Or.inl ⟨by rfl, ?yq7⟩) (by assumption) ?rq7
              case yq7 => (intro w hSw; (try dsimp only at hSw); go_simp; (try with_reducible rfl))
              try simp only [Act.put, List.setIfInBounds_toArray, List.set_cons_zero, List.set_cons_succ]
              refine wpAnyH_take (i := 8) (oi := { dst := some 144, op := Op.indexAddr 51 (Operand.tmp 3) (Operand.const (Value.int IntKind.i64 0)), type := 0, pos := "law.go:105", after := #[], guard := none }) (v := ?vq8) rfl (by kernel_rfl) (by kernel_rfl) (by kernel_rfl) (fun _ _ _ h => h) (Or.inl ⟨by rfl, ?yq8⟩) (by assumption) ?rq8
              case yq8 => (intro w hSw; (try dsimp only at hSw); go_simp; (try with_reducible rfl))
              try simp only [Act.put, List.setIfInBounds_toArray, List.set_cons_zero, List.set_cons_succ]
              refine wpAnyH_take (i := 9) (oi := { dst := some 145, op := Op.load 2 (Operand.tmp 144), type := 2, pos := "law.go:105", after := #[{ on := 8, ground := Ground.data }], guard := none }) (v := ?vq9) rfl (by kernel_rfl) (by kernel_rfl) (by kernel_rfl) (fun _ _ _ h => h) (Or.inl ⟨by rfl, ?yq9⟩) (by assumption) ?rq9
              case yq9 => (intro w hSw; (try dsimp only at hSw); go_simp; (try with_reducible rfl))
              try simp only [Act.put, List.setIfInBounds_toArray, List.set_cons_zero, List.set_cons_succ]
              refine wpAnyH_take (i := 10) (oi := { dst := some 146, op := Op.indexAddr 51 (Operand.tmp 3) (Operand.const (Value.int IntKind.i64 1)), type := 0, pos := "law.go:105", after := #[], guard := none }) (v := ?vq10) rfl (by kernel_rfl) (by kernel_rfl) (by kernel_rfl) (fun _ _ _ h => h) (Or.inl ⟨by rfl, ?yq10⟩) (by assumption) ?rq10
              case yq10 => (intro w hSw; (try dsimp only at hSw); go_simp; (try with_reducible rfl))
              try simp only [Act.put, List.setIfInBounds_toArray, List.set_cons_zero, List.set_cons_succ]
              refine wpAnyH_take (i := 11) (oi := { dst := some 147, op := Op.load 2 (Operand.tmp 146), type := 2, pos := "law.go:105", after := #[{ on := 10, ground := Ground.data }], guard := none }) (v := ?vq11) rfl (by kernel_rfl) (by kernel_rfl) (by kernel_rfl) (fun _ _ _ h => h) (Or.inl ⟨by rfl, ?yq11⟩) (by assumption) ?rq11
              case yq11 => (intro w hSw; (try dsimp only at hSw); go_simp; (try with_reducible rfl))
              try simp only [Act.put, List.setIfInBounds_toArray, List.set_cons_zero, List.set_cons_succ]
              refine wpAnyH_take (i := 12) (oi := { dst := some 148, op := Op.call { callee := Callee.builtin Builtin.max, args := #[Operand.tmp 145, Operand.tmp 147], argTypes := #[2, 2] }, type := 2, pos := "law.go:105", after := #[{ on := 9, ground := Ground.data }, { on := 11, ground := Ground.data }], guard := none }) (v := ?vq12) rfl (by kernel_rfl) (by kernel_rfl) (by kernel_rfl) (fun _ _ _ h => h) (Or.inl ⟨by rfl, ?yq12⟩) (by assumption) ?rq12
              case yq12 => (intro w hSw; (try dsimp only at hSw); go_simp; (try with_reducible rfl))
              try simp only [Act.put, List.setIfInBounds_toArray, List.set_cons_zero, List.set_cons_succ]
              refine wpAnyH_ready (rs := [6]) (by kernel_rfl) (by simp) ?_
              refine AllReadyH.cons (o := { dst := some 142, op := Op.call { callee := Callee.value (Operand.func 19), args := #[Operand.tmp 136, Operand.tmp 141, Operand.const (Value.int IntKind.i64 100)], argTypes := #[23, 2, 3] }, type := 45, pos := "law.go:105", after := #[{ on := 0, ground := Ground.data }, { on := 5, ground := Ground.data }], guard := none }) rfl (fun K hK => ?_) AllReadyH.nil
              go_simp
              refine HD1.out.mono ?_; rintro en w12 ⟨v12, rfl, hR12⟩
              have HR12 := Lib.hid hR12
              have S12 : Hid ((fun w' : World => w'.cell? ⟨A, 0, none⟩ = some (.int .i64 t0) ∧ w'.cell? ⟨A, 0 + 1, none⟩ = some (.int .i64 t1)) w12) := Lib.hid ⟨cell_bel4 hR12.bel S0.out.1, cell_bel4 hR12.bel S0.out.2⟩
              have HD2 := Lib.hid (HDb.out w12 hR12.bel)
              obtain ⟨a12, c12, rfl, -, -, hI12, -⟩ := hR12.slice
              have HI12 := Lib.hid hI12
              clear hR12 hI12
              (try go_wp2_with fail)
              refine hK.out _ _ S12.out (fun hHeld => ?_)
              clear hK
              try simp only [Act.put, List.setIfInBounds_toArray, List.set_cons_zero, List.set_cons_succ]
              refine wpAnyH_ready (rs := [13]) (by kernel_rfl) (by simp) ?_
              refine AllReadyH.cons (o := { dst := some 149, op := Op.call { callee := Callee.value (Operand.func 19), args := #[Operand.tmp 143, Operand.tmp 148, Operand.const (Value.int IntKind.i64 100)], argTypes := #[23, 2, 3] }, type := 45, pos := "law.go:105", after := #[{ on := 7, ground := Ground.data }, { on := 12, ground := Ground.data }, { on := 6, ground := Ground.chain }], guard := none }) rfl (fun K hK => ?_) AllReadyH.nil
              go_simp
              refine HD2.out.mono ?_; rintro en w13 ⟨v13, rfl, hR13⟩
              have HR13 := Lib.hid hR13
              have S13 : Hid ((fun w' : World => w'.cell? ⟨A, 0, none⟩ = some (.int .i64 t0) ∧ w'.cell? ⟨A, 0 + 1, none⟩ = some (.int .i64 t1)) w13) := Lib.hid ⟨cell_bel4 hR13.bel S12.out.1, cell_bel4 hR13.bel S12.out.2⟩
              obtain ⟨a13, c13, rfl, hc13, hc13', hI13, -⟩ := hR13.slice
              have HI13 := Lib.hid hI13
              clear hR13 hI13
              (try go_wp2_with fail)
              refine hK.out _ _ S13.out (fun hHeld => ?_)
              clear hK
              try simp only [Act.put, List.setIfInBounds_toArray, List.set_cons_zero, List.set_cons_succ]
              refine wpAnyH_take (i := 14) (oi := { dst := some 14, op := Op.assign (Operand.tmp 142), type := 45, pos := "law.go:105", after := #[{ on := 6, ground := Ground.data }, { on := 13, ground := Ground.chain }, { on := 0, ground := Ground.phase }, { on := 1, ground := Ground.phase }, { on := 2, ground := Ground.phase }, { on := 3, ground := Ground.phase }, { on := 4, ground := Ground.phase }, { on := 5, ground := Ground.phase }, { on := 6, ground := Ground.phase }, { on := 7, ground := Ground.textOnly Departure.lateStores }, { on := 8, ground := Ground.textOnly Departure.lateStores }, { on := 9, ground := Ground.textOnly Departure.lateStores }, { on := 10, ground := Ground.textOnly Departure.lateStores }, { on := 11, ground := Ground.textOnly Departure.lateStores }, { on := 12, ground := Ground.textOnly Departure.lateStoresUnsure }, { on := 13, ground := Ground.textOnly Departure.lateStoresUnsure }], guard := none }) (v := ?vq14) rfl (by kernel_rfl) (by kernel_rfl) (by kernel_rfl) (fun _ _ _ h => h) (Or.inl ⟨by rfl, ?yq14⟩) (by assumption) ?rq14
              case yq14 => (intro w hSw; (try dsimp only at hSw); go_simp; (try with_reducible rfl))
              try simp only [Act.put, List.setIfInBounds_toArray, List.set_cons_zero, List.set_cons_succ]
              refine wpAnyH_take (i := 15) (oi := { dst := some 15, op := Op.assign (Operand.tmp 149), type := 45, pos := "law.go:105", after := #[{ on := 13, ground := Ground.data }, { on := 14, ground := Ground.chain }, { on := 0, ground := Ground.phase }, { on := 1, ground := Ground.phase }, { on := 2, ground := Ground.phase }, { on := 3, ground := Ground.phase }, { on := 4, ground := Ground.phase }, { on := 5, ground := Ground.phase }, { on := 6, ground := Ground.phase }, { on := 7, ground := Ground.phase }, { on := 8, ground := Ground.phase }, { on := 9, ground := Ground.phase }, { on := 10, ground := Ground.phase }, { on := 11, ground := Ground.phase }, { on := 12, ground := Ground.phase }, { on := 13, ground := Ground.phase }, { on := 14, ground := Ground.phase }], guard := none }) (v := ?vq15) rfl (by kernel_rfl) (by kernel_rfl) (by kernel_rfl) (fun _ _ _ h => h) (Or.inl ⟨by rfl, ?yq15⟩) (by assumption) ?rq15
              case yq15 => (intro w hSw; (try dsimp only at hSw); go_simp; (try with_reducible rfl))
              try simp only [Act.put, List.setIfInBounds_toArray, List.set_cons_zero, List.set_cons_succ]
              refine wpAnyH_done (by kernel_rfl) ?_ _
              have hle := HPle.out
              have hleI : (Q1.length : Int) ≤ (Q2.length : Int) := by omega
              have hb1 : ¬ ((c13 : Int) < (Q1.length : Int)) := by rw [List.length_map] at hc13; omega
              have hb2 : (Q1.length : Int) ≤ (c13 : Int) := by rw [List.length_map] at hc13; omega
              have hb3 : Q1.length ≤ c13 := by omega
              have HIp : Hid (InT w13 a13 (Q1.map (·.2))) := Lib.hid fun n hn => by
                have hn1 : n < Q1.length := by rw [List.length_map] at hn; exact hn
                obtain ⟨g, e, hc⟩ := HI13.out n (by rw [List.length_map]; omega)
                refine ⟨g, e, ?_⟩
                rw [hc]
                have e1 : Q1[n]? = Q2[n]? := by
                  have h9 : Q1[n]? = (Q2.take Q1.length)[n]? := congrArg (fun L : List Du => L[n]?) HPre.out
                  rw [h9, List.getElem?_take_of_lt hn1]
                rw [List.getElem?_eq_getElem hn1, List.getElem?_eq_getElem (by omega)] at e1
                have e2 := Option.some.inj e1
                simp [e2]
              have HSm := Lib.hid (same_calls w13 a12 a13 c12 c13 (Q1.map (·.2)) (by rw [List.length_map]; exact Nat.le_trans HQl.out (by decide)) (HI12.out.below HR13.out.bel) HIp.out)
              rw [List.length_map] at HSm
              have HBf := Lib.hid (HBw.out w13 (bstep HR12.out.bel HR13.out.bel))
              go_wp2_with fail
              refine HSm.out.mono ?_; rintro en w14 ⟨rfl, hb14⟩
              have HB14 := Lib.hid (bstep HBf.out hb14)
              clear hb14 HSm
              go_wp2_with fail
              go_ret
              exact ⟨rfl, HB14.out⟩
end Go.Proofs.Ytabhnnffohnecaa.Ea
