/- ExpiryRuns. No condition. -/
import Derived.Test.YtabhnnffohnecaaEz1
import Derived.Deep.RegionHeld3
import Derived.Deep.CutBlock
import Derived.Deep.CutRange
namespace Go.Proofs.Ytabhnnffohnecaa.Ea
open Go.ChangeShapes Go.WideShapes Go.ChangeAt Go.RowKit Go.Maps Go.WideMaps
/-- An act: its kind, its key, its time. -/
structure Ac where
  k : Int
  s : ByteArray
  t : Int
/-- Acts as they lie. -/
def InA (W : World) (a : Option Addr) (l : List Ac) : Prop := 0 < l.length → ∃ b o, a = some ⟨b, o, none⟩ ∧ b < W.heap.size ∧ ∀ i (h : i < l.length), W.cell? ⟨b, o + i * 3, none⟩ = some (.int .i64 l[i].k) ∧ W.cell? ⟨b, o + i * 3 + 1, none⟩ = some (.string l[i].s) ∧ W.cell? ⟨b, o + i * 3 + 2, none⟩ = some (.int .i64 l[i].t)
theorem InA.below {B : Nat} {w w' : World} {a : Option Addr} {l : List Ac} (h : InA w a l) (hB : w.heap.size ≤ B) (hb : Below B w w') : InA w' a l := fun hp => by
  obtain ⟨b, o, rfl, hlt, hc⟩ := h hp
  refine ⟨b, o, rfl, Nat.lt_of_lt_of_le hlt hb.size, fun i hi => ?_⟩
  have e : ∀ j, w'.cell? ⟨b, j, none⟩ = w.cell? ⟨b, j, none⟩ := fun j => hb.cell (p := ⟨b, j, none⟩) (Nat.lt_of_lt_of_le hlt hB)
  rw [e, e, e]
  exact hc i hi
theorem cell_bel {w w' : World} {x i : Nat} {v : Value} (hb : Below w.heap.size w w') (hc : w.cell? ⟨x, i, none⟩ = some v) : w'.cell? ⟨x, i, none⟩ = some v := (hb.cell (p := ⟨x, i, none⟩) (World.block_lt_of_cell? _ _ hc)).trans hc
theorem dueD_len (now : Int) (most : Nat) (S : List Du) : (dueD now most S).length ≤ S.length := Nat.le_trans (List.length_take_le' _ _) (List.length_filter_le _ _)
set_option maxHeartbeats 16000000 in
set_option maxRecDepth 100000 in
theorem expiryRuns (xa : Option Addr) (xc : Nat) (l : List Ac) (w : World) (hI : InA w xa l) (hS : ∀ i (h : i < l.length), l[i].s.size ≤ maxLen) (now most : Int) (hm1 : -9223372036854775808 ≤ most) (hm2 : most ≤ 9223372036854775807) :
    Calls Try.prog 4 #[.slice xa l.length xc, .int .i64 now, .int .i64 most] w fun e w' => e = .returned (.bool true) ∧ Below w.heap.size w w' := by
  have HI := Lib.hid hI
  have HSZ := Lib.hid hS
  clear hI hS
  have HA := Lib.hid (expiryAlive w)
  go_enter Try.func4, Try.ntmps4
  go_wp2_with fail
  refine HA.out.mono ?_; rintro en w2 ⟨rfl, hb2⟩
  have HB2 := Lib.hid hb2
  have HI2 := Lib.hid (HI.out.below (Nat.le_refl _) hb2)
  clear hb2 HA HI
  by_cases hl : 80 < l.length
  · have hlc : (80 : Int) < (l.length : Int) := by omega
    go_wp2_with fail
    go_ret
    exact ⟨rfl, HB2.out⟩
  have hlc : ¬ (80 : Int) < (l.length : Int) := by omega
  have HN := Lib.hid (ec_new w2 w2 (Below.refl _ _))
  go_wp2_with fail
  refine HN.out.mono ?_; rintro en w3 ⟨T, rfl, h3⟩
  have H3 := Lib.hid (h3.swap (bbox (.cells #[] 26)) (a' := some ⟨w3.heap.size, 0, none⟩) (G' := []) (fun h => absurd h (Nat.lt_irrefl _)) (fun g i h => absurd h (Nat.lt_irrefl _)))
  clear h3 HN
  go_wp2_with fail
  generalize w3.alloc (.cells #[] 26) = w4 at *
  generalize hv0 : Value.slice (some ⟨w3.heap.size, 0, none⟩) 0 0 = v0 at *
  have HV0 := Lib.hid hv0
  clear hv0
  go_loopg [8, 30] (l.length + 1) (fun g vl vi wr => ∃ (i : Nat) (K : List Du) (a : Option Addr) (c : Nat), vi = .int .i64 i ∧ i ≤ l.length ∧ l.length - i ≤ g ∧ vl = .slice a K.length c ∧ K.length ≤ i ∧ Hid (EC w2 T wr K a K (fun _ => False)))
  case atStart => exact ⟨0, [], some ⟨w3.heap.size, 0, none⟩, 0, rfl, by omega, by omega, HV0.out.symm, Nat.le_refl _, H3⟩
  case round =>
    obtain ⟨i, K, a5, c5, rfl, hi, hg, rfl, hK, HR1⟩ := hrel
    clear H3
    by_cases hil : i < l.length
    case neg =>
      have hic : ¬ ((i : Int) < (l.length : Int)) := by omega
      have HAll := Lib.hid (HR1.out.all (by omega))
      go_wp2_with fail
      refine HAll.out.mono ?_; rintro en w5 ⟨v5, rfl, hR⟩
      have h5 := HR1.out.bel hR.bel
      obtain ⟨ra, rc, rfl, -, -, hIr⟩ := hR.slice
      have HSm := Lib.hid (sameD_calls w5 ra a5 rc c5 K (by omega) hIr h5.list)
      have HBe := Lib.hid (HB2.out.trans (h5.below.mono HB2.out.size))
      clear h5 hR hIr HAll
      go_wp2_with fail
      refine HSm.out.mono ?_; rintro en w6 ⟨rfl, hb6⟩
      have HB6 := Lib.hid hb6
      clear hb6 HSm
      go_wp2_with fail
      go_ret
      exact ⟨rfl, bstep HBe.out HB6.out⟩
    case pos =>
      have hic : (i : Int) < (l.length : Int) := by omega
      obtain ⟨b, o, rfl, hlt, hc⟩ := HI2.out (by omega)
      obtain ⟨c0, c1, c2⟩ := hc i hil
      have e : ∀ j, wr.cell? ⟨b, j, none⟩ = w2.cell? ⟨b, j, none⟩ := fun j => HR1.out.below.cell (p := ⟨b, j, none⟩) hlt
      rw [← e] at c0 c1 c2
      have HS := Lib.hid (HSZ.out i hil)
      clear hc e hlt
      generalize l[i].s = s at *
      generalize l[i].k = k at *
      generalize l[i].t = t at *
      have H1 : Hid (EC w2 T (wr.alloc (.cells #[.int .i64 k, .string s, .int .i64 t] 34)) K a5 K (fun y => False ∨ y = wr.heap.size)) := Lib.hid (HR1.out.guard (bbox _) (Nat.le_refl _) (by simp))
      have X1 : Hid ((wr.alloc (.cells #[.int .i64 k, .string s, .int .i64 t] 34)).cell? ⟨wr.heap.size, 0 + 1, none⟩ = some (.string s)) := Lib.hid (by rw [World.cell?_alloc_new]; rfl)
      have X2 : Hid ((wr.alloc (.cells #[.int .i64 k, .string s, .int .i64 t] 34)).cell? ⟨wr.heap.size, 0 + 2, none⟩ = some (.int .i64 t)) := Lib.hid (by rw [World.cell?_alloc_new]; rfl)
      go_upto_block 2 with fail
      go_cut [8, 30] from 30 to 146 (fun vl vi wc => vi = .int .i64 i ∧ ∃ (K6 : List Du) (a6 : Option Addr) (c6 : Nat), vl = .slice a6 K6.length c6 ∧ Hid (K6.length ≤ i + 1) ∧ Hid (EC w2 T wc K6 a6 K6 (fun y => False ∨ y = wr.heap.size)) ∧ Hid (wc.cell? ⟨wr.heap.size, 0 + 1, none⟩ = some (.string s)))
      case first =>
        cases hk0 : (k == (0 : Int))
        case true =>
          have hk2 := hk0
          have HX := Lib.hid (H1.out.refPut c5 s t (by omega))
          have x1 := X1.out
          have x2 := X2.out
          go_wp2_with fail
          refine HX.out.mono ?_; rintro en w5 ⟨a6, c6, rfl, h5, hb5⟩
          have y1 := cell_bel hb5 x1
          have y2 := cell_bel hb5 x2
          have HY := Lib.hid (h5.put s HS.out t (by omega))
          clear h5 hb5 HX x1 x2 c0 c1 c2 X1 X2 H1
          generalize hbx : wr.heap.size = bx at *
          have HBX := Lib.hid hbx
          clear hbx
          have Y1 := Lib.hid y1
          generalize errT t = e5 at *
          go_wp2_with fail
          refine HY.out.mono ?_; rintro en w6 ⟨rfl, h6, hk6⟩
          have hc6 : w6.cell? ⟨bx, 0 + 1, none⟩ = some (.string s) := hk6.cell (.inr rfl) Y1.out
          have HL6 : Hid ((putT s t K).length ≤ i + 1) := Lib.hid (by have := putT_le s t K; omega)
          clear hk6 HY y1 y2 Y1 hk0 hk2
          generalize putT s t K = K6 at *
          go_wp2_with fail
          have H6 := Lib.hid h6
          have HC6 := Lib.hid hc6
          clear h6 hc6
          go_meet
          case rel => exact ⟨rfl, K6, a6, c6, rfl, HL6, H6, HC6⟩
        case false =>
         cases hk2 : (k == (2 : Int))
         case true =>
          have HX := Lib.hid H1.out.clear
          have x1 := X1.out
          go_wp2_with fail
          refine HX.out.mono ?_; rintro en w6 ⟨rfl, h6, hk6⟩
          have hc6 : w6.cell? ⟨wr.heap.size, 0 + 1, none⟩ = some (.string s) := hk6.cell (.inr rfl) x1
          have h6 := h6.nolist
          clear hk6 HX x1 c0 c1 c2 X1 X2 H1
          generalize hbx : wr.heap.size = bx at *
          have HBX := Lib.hid hbx
          clear hbx
          obtain ⟨K6, hK6⟩ : ∃ K6 : List Du, K6 = [] := ⟨_, rfl⟩
          obtain ⟨a6, ha6⟩ : ∃ a6 : Option Addr, a6 = none := ⟨_, rfl⟩
          obtain ⟨c6, hc6e⟩ : ∃ c6 : Nat, c6 = 0 := ⟨_, rfl⟩
          have HL6 : Hid (K6.length ≤ i + 1) := Lib.hid (by rw [hK6]; exact Nat.zero_le _)
          have HV : Hid (Value.slice none 0 0 = Value.slice a6 K6.length c6) := Lib.hid (by rw [hK6, ha6, hc6e]; rfl)
          rw [← hK6, ← ha6] at h6
          clear hK6 ha6 hc6e
          go_wp2_with fail
          rw [HV.out]
          clear HV hk0 hk2
          have H6 := Lib.hid h6
          have HC6 := Lib.hid hc6
          clear h6 hc6
          go_meet
          case rel => exact ⟨rfl, K6, a6, c6, rfl, HL6, H6, HC6⟩
         case false =>
          have HX := Lib.hid (H1.out.refDrop c5 s (by omega))
          have x1 := X1.out
          go_wp2_with fail
          refine HX.out.mono ?_; rintro en w5 ⟨a6, c6, rfl, h5, hb5⟩
          have y1 := cell_bel hb5 x1
          have HY := Lib.hid (h5.drop s HS.out (by omega))
          clear h5 hb5 HX x1 c0 c1 c2 X1 X2 H1
          generalize hbx : wr.heap.size = bx at *
          have HBX := Lib.hid hbx
          clear hbx
          have Y1 := Lib.hid y1
          generalize inD s K = b5 at *
          go_wp2_with fail
          refine HY.out.mono ?_; rintro en w6 ⟨rfl, h6, hk6⟩
          have hc6 : w6.cell? ⟨bx, 0 + 1, none⟩ = some (.string s) := hk6.cell (.inr rfl) Y1.out
          have HL6 : Hid ((dropD s K).length ≤ i + 1) := Lib.hid (by have := dropD_le s K; omega)
          clear hk6 HY y1 Y1 hk0 hk2
          generalize dropD s K = K6 at *
          go_wp2_with fail
          have H6 := Lib.hid h6
          have HC6 := Lib.hid hc6
          clear h6 hc6
          go_meet
          case rel => exact ⟨rfl, K6, a6, c6, rfl, HL6, H6, HC6⟩
      case rest =>
        obtain ⟨rfl, K6, a6, c6, rfl, HL6, H6, HC6⟩ := hcut
        clear c0 c1 c2 X1 X2 H1
        generalize wr.heap.size = bx at *
        have h6 := H6.out
        have hc6 := HC6.out
        clear H6 HC6
        have HG1 := Lib.hid (h6.get s HS.out)
        have HG2 := Lib.hid (refGet_calls _ a6 c6 K6 (by have := HL6.out; omega) h6.list s)
        have H6x := Lib.hid h6
        clear h6
        generalize getD s K6 = gt at *
        generalize inD s K6 = gb at *
        go_wp2_with fail
        refine HG1.out.mono ?_; rintro en w7 ⟨rfl, rfl⟩
        go_wp2_with fail
        refine HG2.out.mono ?_; rintro en w7 ⟨rfl, hb7⟩
        have h7 := H6x.out.bel hb7
        have HNx := Lib.hid h7.next
        have H7 := Lib.hid h7
        clear hb7 h7 HG1 HG2 hc6
        generalize hz0 : (K6.headD (0, ⟨#[]⟩)).1 = z0 at *
        generalize hq0 : (K6.headD (0, ⟨#[]⟩)).2 = q0 at *
        have HZ0 := Lib.hid hz0
        have HQ0 := Lib.hid hq0
        clear hz0 hq0
        by_cases hne : 0 < K6.length
        case pos =>
          rw [decide_eq_true hne] at HNx
          go_wp2_with fail
          refine HNx.out.mono ?_; rintro en w8 ⟨rfl, hb8⟩
          have H9 := Lib.hid ((H7.out.bel hb8).bel (bbox (.cells #[.int .i64 z0, .string q0] 26)))
          have y0 : (w8.alloc (.cells #[.int .i64 z0, .string q0] 26)).cell? ⟨w8.heap.size, 0, none⟩ = some (.int .i64 z0) := by rw [World.cell?_alloc_new]; rfl
          have y1 : (w8.alloc (.cells #[.int .i64 z0, .string q0] 26)).cell? ⟨w8.heap.size, 0 + 1, none⟩ = some (.string q0) := by rw [World.cell?_alloc_new]; rfl
          clear hb8 HNx H7
          go_wp2_with fail
          generalize w8.alloc (.cells #[.int .i64 z0, .string q0] 26) = w9 at *
          generalize w8.heap.size = bd at *
          obtain ⟨lb, lo, rfl, -, hcl⟩ := H9.out.list hne
          obtain ⟨z1, z2⟩ := hcl 0 hne
          have e1 : K6[0].1 = z0 := by rw [← HZ0.out]; cases K6 with | nil => cases hne | cons d R => rfl
          have e2 : K6[0].2 = q0 := by rw [← HQ0.out]; cases K6 with | nil => cases hne | cons d R => rfl
          rw [e1] at z1
          rw [e2] at z2
          rw [Nat.zero_mul, Nat.add_zero] at z1 z2
          clear hcl e1 e2
          have hneI : (0 : Int) < (K6.length : Int) := by omega
          have hns := fun W => neqD_same W z0 q0
          have HRe := Lib.hid (fun u (hI : InD u (some ⟨lb, lo, none⟩) K6) => refDue_calls u (some ⟨lb, lo, none⟩) c6 K6 (by have := HL6.out; omega) hI now most)
          have HRd : Hid (EC w2 T w9.drew K6 (some ⟨lb, lo, none⟩) K6 (fun y => False ∨ y = bx)) := Lib.hid (H9.out.bel (Below.refl _ _).drew)
          have S1 : Hid ((fun w' : World => w'.cell? ⟨bd, 0, none⟩ = some (.int .i64 z0) ∧ w'.cell? ⟨bd, 0 + 1, none⟩ = some (.string q0) ∧ w'.cell? ⟨lb, lo, none⟩ = some (.int .i64 z0) ∧ w'.cell? ⟨lb, lo + 1, none⟩ = some (.string q0)) w9.drew) := Lib.hid ⟨y0, y1, z1, z2⟩
          have SB : Hid (∀ u u', Below u.heap.size u u' → (fun w' : World => w'.cell? ⟨bd, 0, none⟩ = some (.int .i64 z0) ∧ w'.cell? ⟨bd, 0 + 1, none⟩ = some (.string q0) ∧ w'.cell? ⟨lb, lo, none⟩ = some (.int .i64 z0) ∧ w'.cell? ⟨lb, lo + 1, none⟩ = some (.string q0)) u → (fun w' : World => w'.cell? ⟨bd, 0, none⟩ = some (.int .i64 z0) ∧ w'.cell? ⟨bd, 0 + 1, none⟩ = some (.string q0) ∧ w'.cell? ⟨lb, lo, none⟩ = some (.int .i64 z0) ∧ w'.cell? ⟨lb, lo + 1, none⟩ = some (.string q0)) u') := Lib.hid fun u u' hb hs => ⟨cell_bel hb hs.1, cell_bel hb hs.2.1, cell_bel hb hs.2.2.1, cell_bel hb hs.2.2.2⟩
          have HLd := Lib.hid HRd.out.len
          have HDd := Lib.hid (HRd.out.due (by have := HL6.out; omega) now most hm1 hm2)
          have HIx := Lib.hid (fun u (hb : Below w9.drew.heap.size w9.drew u) => HRd.out.list.below (Nat.le_refl _) hb)
          have HDl : Hid (((dueD now most.toNat K6).map (·.2)).length ≤ 1000000) := Lib.hid (by rw [List.length_map]; have := dueD_len now most.toNat K6; have := HL6.out; omega)
          have hl6 := HL6.out
          clear y0 y1 z1 z2 H9 H6x
          generalize (dueD now most.toNat K6).map (·.2) = Q at *
          refine wp_region_held_drew (S := fun w' : World => w'.cell? ⟨bd, 0, none⟩ = some (.int .i64 z0) ∧ w'.cell? ⟨bd, 0 + 1, none⟩ = some (.string q0) ∧ w'.cell? ⟨lb, lo, none⟩ = some (.int .i64 z0) ∧ w'.cell? ⟨lb, lo + 1, none⟩ = some (.string q0)) (by kernel_rfl) S1.out (fun hHeld => ?_)
          refine wpAnyH_take (i := 0) (oi := { dst := some 93, op := Op.move (Operand.tmp 15), type := 2, pos := "law.go:69", after := #[], guard := none }) (v := ?va0) rfl (by kernel_rfl) (by kernel_rfl) (by kernel_rfl) (fun _ _ _ h => h) (Or.inl ⟨by rfl, ?ya0⟩) (by assumption) ?ra0
          case ya0 => (intro w hSw; (try dsimp only at hSw); go_simp; (try with_reducible rfl))
          try simp only [Act.put, List.setIfInBounds_toArray, List.set_cons_zero, List.set_cons_succ]
          refine wpAnyH_take (i := 1) (oi := { dst := some 94, op := Op.move (Operand.tmp 17), type := 2, pos := "law.go:69", after := #[], guard := none }) (v := ?va1) rfl (by kernel_rfl) (by kernel_rfl) (by kernel_rfl) (fun _ _ _ h => h) (Or.inl ⟨by rfl, ?ya1⟩) (by assumption) ?ra1
          case ya1 => (intro w hSw; (try dsimp only at hSw); go_simp; (try with_reducible rfl))
          try simp only [Act.put, List.setIfInBounds_toArray, List.set_cons_zero, List.set_cons_succ]
          refine wpAnyH_take (i := 2) (oi := { dst := some 95, op := Op.binOp BinOp.neq 2 (Operand.tmp 93) (Operand.tmp 94) 2, type := 4, pos := "law.go:69", after := #[{ on := 0, ground := Ground.data }, { on := 1, ground := Ground.data }], guard := none }) (v := ?va2) rfl (by kernel_rfl) (by kernel_rfl) (by kernel_rfl) (fun _ _ _ h => h) (Or.inl ⟨by rfl, ?ya2⟩) (by assumption) ?ra2
          case ya2 => (intro w hSw; (try dsimp only at hSw); go_simp; (try with_reducible rfl))
          try simp only [Act.put, List.setIfInBounds_toArray, List.set_cons_zero, List.set_cons_succ]
          refine wpAnyH_take (i := 3) (oi := { dst := some 96, op := Op.move (Operand.tmp 95), type := 4, pos := "law.go:69", after := #[{ on := 2, ground := Ground.data }], guard := none }) (v := ?va3) rfl (by kernel_rfl) (by kernel_rfl) (by kernel_rfl) (fun _ _ _ h => h) (Or.inl ⟨by rfl, ?ya3⟩) (by assumption) ?ra3
          case ya3 => (intro w hSw; (try dsimp only at hSw); go_simp; (try with_reducible rfl))
          try simp only [Act.put, List.setIfInBounds_toArray, List.set_cons_zero, List.set_cons_succ]
          refine wpAnyH_take (i := 4) (oi := { dst := some 97, op := Op.move (Operand.tmp 16), type := 4, pos := "law.go:69", after := #[{ on := 3, ground := Ground.guard }], guard := some (3, false) }) (v := ?va4) rfl (by kernel_rfl) (by kernel_rfl) (by kernel_rfl) (fun _ _ _ h => h) (Or.inl ⟨by rfl, ?ya4⟩) (by assumption) ?ra4
          case ya4 => (intro w hSw; (try dsimp only at hSw); go_simp; (try with_reducible rfl))
          try simp only [Act.put, List.setIfInBounds_toArray, List.set_cons_zero, List.set_cons_succ]
          refine wpAnyH_take (i := 5) (oi := { dst := some 98, op := Op.move (Operand.tmp 18), type := 4, pos := "law.go:69", after := #[{ on := 3, ground := Ground.guard }], guard := some (3, false) }) (v := ?va5) rfl (by kernel_rfl) (by kernel_rfl) (by kernel_rfl) (fun _ _ _ h => h) (Or.inl ⟨by rfl, ?ya5⟩) (by assumption) ?ra5
          case ya5 => (intro w hSw; (try dsimp only at hSw); go_simp; (try with_reducible rfl))
          try simp only [Act.put, List.setIfInBounds_toArray, List.set_cons_zero, List.set_cons_succ]
          refine wpAnyH_take (i := 6) (oi := { dst := some 99, op := Op.binOp BinOp.neq 4 (Operand.tmp 97) (Operand.tmp 98) 4, type := 4, pos := "law.go:69", after := #[{ on := 4, ground := Ground.data }, { on := 5, ground := Ground.data }, { on := 3, ground := Ground.guard }], guard := some (3, false) }) (v := ?va6) rfl (by kernel_rfl) (by kernel_rfl) (by kernel_rfl) (fun _ _ _ h => h) (Or.inl ⟨by rfl, ?ya6⟩) (by assumption) ?ra6
          case ya6 => (intro w hSw; (try dsimp only at hSw); go_simp; (try with_reducible rfl))
          try simp only [Act.put, List.setIfInBounds_toArray, List.set_cons_zero, List.set_cons_succ]
          refine wpAnyH_take (i := 7) (oi := { dst := some 100, op := Op.pick (Operand.tmp 96) (Operand.const (Value.bool true)) (Operand.tmp 99), type := 4, pos := "law.go:69", after := #[{ on := 3, ground := Ground.data }, { on := 6, ground := Ground.data }], guard := none }) (v := ?va7) rfl (by kernel_rfl) (by kernel_rfl) (by kernel_rfl) (fun _ _ _ h => h) (Or.inl ⟨by rfl, ?ya7⟩) (by assumption) ?ra7
          case ya7 => (intro w hSw; (try dsimp only at hSw); go_simp; (try with_reducible rfl))
          try simp only [Act.put, List.setIfInBounds_toArray, List.set_cons_zero, List.set_cons_succ]
          refine wpAnyH_take (i := 8) (oi := { dst := some 101, op := Op.move (Operand.tmp 100), type := 4, pos := "law.go:69", after := #[{ on := 7, ground := Ground.data }, { on := 3, ground := Ground.chain }], guard := none }) (v := ?va8) rfl (by kernel_rfl) (by kernel_rfl) (by kernel_rfl) (fun _ _ _ h => h) (Or.inl ⟨by rfl, ?ya8⟩) (by assumption) ?ra8
          case ya8 => (intro w hSw; (try dsimp only at hSw); go_simp; (try with_reducible rfl))
          try simp only [Act.put, List.setIfInBounds_toArray, List.set_cons_zero, List.set_cons_succ]
          refine wpAnyH_take (i := 9) (oi := { dst := some 102, op := Op.move (Operand.tmp 7), type := 23, pos := "law.go:69", after := #[{ on := 8, ground := Ground.guard }], guard := some (8, false) }) (v := ?va9) rfl (by kernel_rfl) (by kernel_rfl) (by kernel_rfl) (fun _ _ _ h => h) (Or.inl ⟨by rfl, ?ya9⟩) (by assumption) ?ra9
          case ya9 => (intro w hSw; (try dsimp only at hSw); go_simp; (try with_reducible rfl))
          try simp only [Act.put, List.setIfInBounds_toArray, List.set_cons_zero, List.set_cons_succ]
          refine wpAnyH_take (i := 11) (oi := { dst := some 104, op := Op.move (Operand.tmp 8), type := 32, pos := "law.go:69", after := #[{ on := 8, ground := Ground.guard }], guard := some (8, false) }) (v := ?va11) rfl (by kernel_rfl) (by kernel_rfl) (by kernel_rfl) (fun _ _ _ h => h) (Or.inl ⟨by rfl, ?ya11⟩) (by assumption) ?ra11
          case ya11 => (intro w hSw; (try dsimp only at hSw); go_simp; (try with_reducible rfl))
          try simp only [Act.put, List.setIfInBounds_toArray, List.set_cons_zero, List.set_cons_succ]
          refine wpAnyH_take (i := 12) (oi := { dst := some 105, op := Op.call { callee := Callee.builtin Builtin.len, args := #[Operand.tmp 104], argTypes := #[32] }, type := 3, pos := "law.go:69", after := #[{ on := 11, ground := Ground.data }, { on := 8, ground := Ground.guard }], guard := some (8, false) }) (v := ?va12) rfl (by kernel_rfl) (by kernel_rfl) (by kernel_rfl) (fun _ _ _ h => h) (Or.inl ⟨by rfl, ?ya12⟩) (by assumption) ?ra12
          case ya12 => (intro w hSw; (try dsimp only at hSw); go_simp; (try with_reducible rfl))
          try simp only [Act.put, List.setIfInBounds_toArray, List.set_cons_zero, List.set_cons_succ]
          refine wpAnyH_ready (rs := [10]) (by kernel_rfl) (by simp) ?_
          refine AllReadyH.cons (o := { dst := some 103, op := Op.call { callee := Callee.value (Operand.func 17), args := #[Operand.tmp 102], argTypes := #[23] }, type := 3, pos := "law.go:69", after := #[{ on := 9, ground := Ground.data }, { on := 8, ground := Ground.chain }, { on := 8, ground := Ground.guard }], guard := some (8, false) }) rfl (fun K hK => ?_) AllReadyH.nil
          go_simp
          refine HLd.out.mono ?_; rintro en8 w8 ⟨rfl, rfl⟩
          (try go_wp2_with fail)
          refine hK.out _ _ S1.out (fun hHeld => ?_)
          clear hK
          try simp only [Act.put, List.setIfInBounds_toArray, List.set_cons_zero, List.set_cons_succ]
          refine wpAnyH_take (i := 13) (oi := { dst := some 106, op := Op.binOp BinOp.neq 3 (Operand.tmp 103) (Operand.tmp 105) 3, type := 4, pos := "law.go:69", after := #[{ on := 10, ground := Ground.data }, { on := 12, ground := Ground.data }, { on := 8, ground := Ground.guard }], guard := some (8, false) }) (v := ?va13) rfl (by kernel_rfl) (by kernel_rfl) (by kernel_rfl) (fun _ _ _ h => h) (Or.inl ⟨by rfl, ?ya13⟩) (by assumption) ?ra13
          case ya13 => (intro w hSw; (try dsimp only at hSw); go_simp; (try with_reducible rfl))
          try simp only [Act.put, List.setIfInBounds_toArray, List.set_cons_zero, List.set_cons_succ]
          refine wpAnyH_take (i := 14) (oi := { dst := some 107, op := Op.pick (Operand.tmp 101) (Operand.const (Value.bool true)) (Operand.tmp 106), type := 4, pos := "law.go:69", after := #[{ on := 8, ground := Ground.data }, { on := 13, ground := Ground.data }], guard := none }) (v := ?va14) rfl (by kernel_rfl) (by kernel_rfl) (by kernel_rfl) (fun _ _ _ h => h) (Or.inl ⟨by rfl, ?ya14⟩) (by assumption) ?ra14
          case ya14 => (intro w hSw; (try dsimp only at hSw); go_simp; (try with_reducible rfl))
          try simp only [Act.put, List.setIfInBounds_toArray, List.set_cons_zero, List.set_cons_succ]
          refine wpAnyH_take (i := 15) (oi := { dst := some 108, op := Op.move (Operand.tmp 107), type := 4, pos := "law.go:69", after := #[{ on := 14, ground := Ground.data }, { on := 10, ground := Ground.chain }], guard := none }) (v := ?va15) rfl (by kernel_rfl) (by kernel_rfl) (by kernel_rfl) (fun _ _ _ h => h) (Or.inl ⟨by rfl, ?ya15⟩) (by assumption) ?ra15
          case ya15 => (intro w hSw; (try dsimp only at hSw); go_simp; (try with_reducible rfl))
          try simp only [Act.put, List.setIfInBounds_toArray, List.set_cons_zero, List.set_cons_succ]
          refine wpAnyH_take (i := 16) (oi := { dst := some 109, op := Op.move (Operand.tmp 20), type := 4, pos := "law.go:69", after := #[{ on := 15, ground := Ground.guard }], guard := some (15, false) }) (v := ?va16) rfl (by kernel_rfl) (by kernel_rfl) (by kernel_rfl) (fun _ _ _ h => h) (Or.inl ⟨by rfl, ?ya16⟩) (by assumption) ?ra16
          case ya16 => (intro w hSw; (try dsimp only at hSw); go_simp; (try with_reducible rfl))
          try simp only [Act.put, List.setIfInBounds_toArray, List.set_cons_zero, List.set_cons_succ]
          refine wpAnyH_take (i := 17) (oi := { dst := some 110, op := Op.move (Operand.tmp 8), type := 32, pos := "law.go:69", after := #[{ on := 15, ground := Ground.guard }], guard := some (15, false) }) (v := ?va17) rfl (by kernel_rfl) (by kernel_rfl) (by kernel_rfl) (fun _ _ _ h => h) (Or.inl ⟨by rfl, ?ya17⟩) (by assumption) ?ra17
          case ya17 => (intro w hSw; (try dsimp only at hSw); go_simp; (try with_reducible rfl))
          try simp only [Act.put, List.setIfInBounds_toArray, List.set_cons_zero, List.set_cons_succ]
          refine wpAnyH_take (i := 18) (oi := { dst := some 111, op := Op.call { callee := Callee.builtin Builtin.len, args := #[Operand.tmp 110], argTypes := #[32] }, type := 3, pos := "law.go:69", after := #[{ on := 17, ground := Ground.data }, { on := 15, ground := Ground.guard }], guard := some (15, false) }) (v := ?va18) rfl (by kernel_rfl) (by kernel_rfl) (by kernel_rfl) (fun _ _ _ h => h) (Or.inl ⟨by rfl, ?ya18⟩) (by assumption) ?ra18
          case ya18 => (intro w hSw; (try dsimp only at hSw); go_simp; (try with_reducible rfl))
          try simp only [Act.put, List.setIfInBounds_toArray, List.set_cons_zero, List.set_cons_succ]
          refine wpAnyH_take (i := 19) (oi := { dst := some 112, op := Op.binOp BinOp.gtr 3 (Operand.tmp 111) (Operand.const (Value.int IntKind.i64 0)) 3, type := 4, pos := "law.go:69", after := #[{ on := 18, ground := Ground.data }, { on := 15, ground := Ground.guard }], guard := some (15, false) }) (v := ?va19) rfl (by kernel_rfl) (by kernel_rfl) (by kernel_rfl) (fun _ _ _ h => h) (Or.inl ⟨by rfl, ?ya19⟩) (by assumption) ?ra19
          case ya19 => (intro w hSw; (try dsimp only at hSw); go_simp; (try with_reducible rfl))
          try simp only [Act.put, List.setIfInBounds_toArray, List.set_cons_zero, List.set_cons_succ]
          refine wpAnyH_take (i := 20) (oi := { dst := some 113, op := Op.binOp BinOp.neq 4 (Operand.tmp 109) (Operand.tmp 112) 4, type := 4, pos := "law.go:69", after := #[{ on := 16, ground := Ground.data }, { on := 19, ground := Ground.data }, { on := 15, ground := Ground.guard }], guard := some (15, false) }) (v := ?va20) rfl (by kernel_rfl) (by kernel_rfl) (by kernel_rfl) (fun _ _ _ h => h) (Or.inl ⟨by rfl, ?ya20⟩) (by assumption) ?ra20
          case ya20 => (intro w hSw; (try dsimp only at hSw); go_simp; (try with_reducible rfl))
          try simp only [Act.put, List.setIfInBounds_toArray, List.set_cons_zero, List.set_cons_succ]
          refine wpAnyH_take (i := 21) (oi := { dst := some 114, op := Op.pick (Operand.tmp 108) (Operand.const (Value.bool true)) (Operand.tmp 113), type := 4, pos := "law.go:69", after := #[{ on := 15, ground := Ground.data }, { on := 20, ground := Ground.data }], guard := none }) (v := ?va21) rfl (by kernel_rfl) (by kernel_rfl) (by kernel_rfl) (fun _ _ _ h => h) (Or.inl ⟨by rfl, ?ya21⟩) (by assumption) ?ra21
          case ya21 => (intro w hSw; (try dsimp only at hSw); go_simp; (try with_reducible rfl))
          try simp only [Act.put, List.setIfInBounds_toArray, List.set_cons_zero, List.set_cons_succ]
          refine wpAnyH_take (i := 22) (oi := { dst := some 115, op := Op.move (Operand.tmp 114), type := 4, pos := "law.go:69", after := #[{ on := 21, ground := Ground.data }, { on := 15, ground := Ground.chain }], guard := none }) (v := ?va22) rfl (by kernel_rfl) (by kernel_rfl) (by kernel_rfl) (fun _ _ _ h => h) (Or.inl ⟨by rfl, ?ya22⟩) (by assumption) ?ra22
          case ya22 => (intro w hSw; (try dsimp only at hSw); go_simp; (try with_reducible rfl))
          try simp only [Act.put, List.setIfInBounds_toArray, List.set_cons_zero, List.set_cons_succ]
          refine wpAnyH_take (i := 23) (oi := { dst := some 116, op := Op.move (Operand.tmp 20), type := 4, pos := "law.go:69", after := #[{ on := 22, ground := Ground.guard }], guard := some (22, false) }) (v := ?va23) rfl (by kernel_rfl) (by kernel_rfl) (by kernel_rfl) (fun _ _ _ h => h) (Or.inl ⟨by rfl, ?ya23⟩) (by assumption) ?ra23
          case ya23 => (intro w hSw; (try dsimp only at hSw); go_simp; (try with_reducible rfl))
          try simp only [Act.put, List.setIfInBounds_toArray, List.set_cons_zero, List.set_cons_succ]
          refine wpAnyH_take (i := 24) (oi := { dst := some 117, op := Op.move (Operand.tmp 116), type := 4, pos := "law.go:69", after := #[{ on := 23, ground := Ground.data }, { on := 22, ground := Ground.chain }, { on := 22, ground := Ground.guard }], guard := some (22, false) }) (v := ?va24) rfl (by kernel_rfl) (by kernel_rfl) (by kernel_rfl) (fun _ _ _ h => h) (Or.inl ⟨by rfl, ?ya24⟩) (by assumption) ?ra24
          case ya24 => (intro w hSw; (try dsimp only at hSw); go_simp; (try with_reducible rfl))
          try simp only [Act.put, List.setIfInBounds_toArray, List.set_cons_zero, List.set_cons_succ]
          refine wpAnyH_take (i := 25) (oi := { dst := some 118, op := Op.load 26 (Operand.tmp 19), type := 26, pos := "law.go:69", after := #[{ on := 24, ground := Ground.guard }], guard := some (24, true) }) (v := ?va25) rfl (by kernel_rfl) (by kernel_rfl) (by kernel_rfl) (fun _ _ _ h => h) (Or.inl ⟨by rfl, ?ya25⟩) (by assumption) ?ra25
          case ya25 => (intro w hSw; (try dsimp only at hSw); go_simp; (try with_reducible rfl))
          try simp only [Act.put, List.setIfInBounds_toArray, List.set_cons_zero, List.set_cons_succ]
          refine wpAnyH_take (i := 26) (oi := { dst := some 119, op := Op.move (Operand.tmp 8), type := 32, pos := "law.go:69", after := #[{ on := 24, ground := Ground.guard }], guard := some (24, true) }) (v := ?va26) rfl (by kernel_rfl) (by kernel_rfl) (by kernel_rfl) (fun _ _ _ h => h) (Or.inl ⟨by rfl, ?ya26⟩) (by assumption) ?ra26
          case ya26 => (intro w hSw; (try dsimp only at hSw); go_simp; (try with_reducible rfl))
          try simp only [Act.put, List.setIfInBounds_toArray, List.set_cons_zero, List.set_cons_succ]
          refine wpAnyH_take (i := 27) (oi := { dst := some 120, op := Op.indexAddr 32 (Operand.tmp 119) (Operand.const (Value.int IntKind.i64 0)), type := 0, pos := "law.go:69", after := #[{ on := 26, ground := Ground.data }, { on := 24, ground := Ground.guard }], guard := some (24, true) }) (v := ?va27) rfl (by kernel_rfl) (by kernel_rfl) (by kernel_rfl) (fun _ _ _ h => h) (Or.inl ⟨by rfl, ?ya27⟩) (by assumption) ?ra27
          case ya27 => (intro w hSw; (try dsimp only at hSw); go_simp; (try with_reducible rfl))
          try simp only [Act.put, List.setIfInBounds_toArray, List.set_cons_zero, List.set_cons_succ]
          refine wpAnyH_take (i := 28) (oi := { dst := some 121, op := Op.load 26 (Operand.tmp 120), type := 26, pos := "law.go:69", after := #[{ on := 27, ground := Ground.data }, { on := 24, ground := Ground.guard }], guard := some (24, true) }) (v := ?va28) rfl (by kernel_rfl) (by kernel_rfl) (by kernel_rfl) (fun _ _ _ h => h) (Or.inl ⟨by rfl, ?ya28⟩) (by assumption) ?ra28
          case ya28 => (intro w hSw; (try dsimp only at hSw); go_simp; (try with_reducible rfl))
          try simp only [Act.put, List.setIfInBounds_toArray, List.set_cons_zero, List.set_cons_succ]
          refine wpAnyH_take (i := 29) (oi := { dst := some 122, op := Op.binOp BinOp.neq 26 (Operand.tmp 118) (Operand.tmp 121) 26, type := 4, pos := "law.go:69", after := #[{ on := 25, ground := Ground.data }, { on := 28, ground := Ground.data }, { on := 24, ground := Ground.guard }], guard := some (24, true) }) (v := ?va29) rfl (by kernel_rfl) (by kernel_rfl) (by kernel_rfl) (fun _ _ _ h => h) (Or.inl ⟨by rfl, ?ya29⟩) (by assumption) ?ra29
          case ya29 => (intro w hSw; (try dsimp only at hSw); go_simp; (try with_reducible rfl))
          try simp only [Act.put, List.setIfInBounds_toArray, List.set_cons_zero, List.set_cons_succ]
          refine wpAnyH_take (i := 30) (oi := { dst := some 123, op := Op.pick (Operand.tmp 117) (Operand.tmp 122) (Operand.const (Value.bool false)), type := 4, pos := "law.go:69", after := #[{ on := 24, ground := Ground.data }, { on := 29, ground := Ground.data }, { on := 22, ground := Ground.guard }], guard := some (22, false) }) (v := ?va30) rfl (by kernel_rfl) (by kernel_rfl) (by kernel_rfl) (fun _ _ _ h => h) (Or.inl ⟨by rfl, ?ya30⟩) (by assumption) ?ra30
          case ya30 => (intro w hSw; (try dsimp only at hSw); go_simp; (try with_reducible rfl))
          try simp only [Act.put, List.setIfInBounds_toArray, List.set_cons_zero, List.set_cons_succ]
          refine wpAnyH_take (i := 31) (oi := { dst := some 124, op := Op.pick (Operand.tmp 115) (Operand.const (Value.bool true)) (Operand.tmp 123), type := 4, pos := "law.go:69", after := #[{ on := 22, ground := Ground.data }, { on := 30, ground := Ground.data }], guard := none }) (v := ?va31) rfl (by kernel_rfl) (by kernel_rfl) (by kernel_rfl) (fun _ _ _ h => h) (Or.inl ⟨by rfl, ?ya31⟩) (by assumption) ?ra31
          case ya31 => (intro w hSw; (try dsimp only at hSw); go_simp; (try with_reducible rfl))
          try simp only [Act.put, List.setIfInBounds_toArray, List.set_cons_zero, List.set_cons_succ]
          refine wpAnyH_take (i := 32) (oi := { dst := some 125, op := Op.move (Operand.tmp 124), type := 4, pos := "law.go:69", after := #[{ on := 31, ground := Ground.data }, { on := 24, ground := Ground.chain }], guard := none }) (v := ?va32) rfl (by kernel_rfl) (by kernel_rfl) (by kernel_rfl) (fun _ _ _ h => h) (Or.inl ⟨by rfl, ?ya32⟩) (by assumption) ?ra32
          case ya32 => (intro w hSw; (try dsimp only at hSw); go_simp; (try with_reducible rfl))
          try simp only [Act.put, List.setIfInBounds_toArray, List.set_cons_zero, List.set_cons_succ]
          refine wpAnyH_take (i := 33) (oi := { dst := some 126, op := Op.move (Operand.tmp 20), type := 4, pos := "law.go:69", after := #[{ on := 32, ground := Ground.guard }], guard := some (32, false) }) (v := ?va33) rfl (by kernel_rfl) (by kernel_rfl) (by kernel_rfl) (fun _ _ _ h => h) (Or.inl ⟨by rfl, ?ya33⟩) (by assumption) ?ra33
          case ya33 => (intro w hSw; (try dsimp only at hSw); go_simp; (try with_reducible rfl))
          try simp only [Act.put, List.setIfInBounds_toArray, List.set_cons_zero, List.set_cons_succ]
          refine wpAnyH_take (i := 34) (oi := { dst := some 127, op := Op.unOp UnOp.not 4 (Operand.tmp 126), type := 4, pos := "law.go:69", after := #[{ on := 33, ground := Ground.data }, { on := 32, ground := Ground.guard }], guard := some (32, false) }) (v := ?va34) rfl (by kernel_rfl) (by kernel_rfl) (by kernel_rfl) (fun _ _ _ h => h) (Or.inl ⟨by rfl, ?ya34⟩) (by assumption) ?ra34
          case ya34 => (intro w hSw; (try dsimp only at hSw); go_simp; (try with_reducible rfl))
          try simp only [Act.put, List.setIfInBounds_toArray, List.set_cons_zero, List.set_cons_succ]
          refine wpAnyH_take (i := 35) (oi := { dst := some 128, op := Op.move (Operand.tmp 127), type := 4, pos := "law.go:69", after := #[{ on := 34, ground := Ground.data }, { on := 32, ground := Ground.chain }, { on := 32, ground := Ground.guard }], guard := some (32, false) }) (v := ?va35) rfl (by kernel_rfl) (by kernel_rfl) (by kernel_rfl) (fun _ _ _ h => h) (Or.inl ⟨by rfl, ?ya35⟩) (by assumption) ?ra35
          case ya35 => (intro w hSw; (try dsimp only at hSw); go_simp; (try with_reducible rfl))
          try simp only [Act.put, List.setIfInBounds_toArray, List.set_cons_zero, List.set_cons_succ]
          refine wpAnyH_take (i := 36) (oi := { dst := some 129, op := Op.load 26 (Operand.tmp 19), type := 26, pos := "law.go:69", after := #[{ on := 35, ground := Ground.guard }], guard := some (35, true) }) (v := undef) rfl (by kernel_rfl) (by kernel_rfl) (by kernel_rfl) (fun _ _ _ h => h) (Or.inr ⟨by rfl, rfl⟩) (by assumption) ?_
          try simp only [Act.put, List.setIfInBounds_toArray, List.set_cons_zero, List.set_cons_succ]
          refine wpAnyH_take (i := 37) (oi := { dst := some 130, op := Op.build 26 #[], type := 26, pos := "law.go:69", after := #[{ on := 35, ground := Ground.guard }], guard := some (35, true) }) (v := undef) rfl (by kernel_rfl) (by kernel_rfl) (by kernel_rfl) (fun _ _ _ h => h) (Or.inr ⟨by rfl, rfl⟩) (by assumption) ?_
          try simp only [Act.put, List.setIfInBounds_toArray, List.set_cons_zero, List.set_cons_succ]
          refine wpAnyH_take (i := 38) (oi := { dst := some 131, op := Op.binOp BinOp.neq 26 (Operand.tmp 129) (Operand.tmp 130) 26, type := 4, pos := "law.go:69", after := #[{ on := 36, ground := Ground.data }, { on := 37, ground := Ground.data }, { on := 35, ground := Ground.guard }], guard := some (35, true) }) (v := undef) rfl (by kernel_rfl) (by kernel_rfl) (by kernel_rfl) (fun _ _ _ h => h) (Or.inr ⟨by rfl, rfl⟩) (by assumption) ?_
          try simp only [Act.put, List.setIfInBounds_toArray, List.set_cons_zero, List.set_cons_succ]
          refine wpAnyH_take (i := 39) (oi := { dst := some 132, op := Op.pick (Operand.tmp 128) (Operand.tmp 131) (Operand.const (Value.bool false)), type := 4, pos := "law.go:69", after := #[{ on := 35, ground := Ground.data }, { on := 38, ground := Ground.data }, { on := 32, ground := Ground.guard }], guard := some (32, false) }) (v := ?va39) rfl (by kernel_rfl) (by kernel_rfl) (by kernel_rfl) (fun _ _ _ h => h) (Or.inl ⟨by rfl, ?ya39⟩) (by assumption) ?ra39
          case ya39 => (intro w hSw; (try dsimp only at hSw); go_simp; (try with_reducible rfl))
          try simp only [Act.put, List.setIfInBounds_toArray, List.set_cons_zero, List.set_cons_succ]
          refine wpAnyH_take (i := 40) (oi := { dst := some 133, op := Op.pick (Operand.tmp 125) (Operand.const (Value.bool true)) (Operand.tmp 132), type := 4, pos := "law.go:69", after := #[{ on := 32, ground := Ground.data }, { on := 39, ground := Ground.data }], guard := none }) (v := ?va40) rfl (by kernel_rfl) (by kernel_rfl) (by kernel_rfl) (fun _ _ _ h => h) (Or.inl ⟨by rfl, ?ya40⟩) (by assumption) ?ra40
          case ya40 => (intro w hSw; (try dsimp only at hSw); go_simp; (try with_reducible rfl))
          try simp only [Act.put, List.setIfInBounds_toArray, List.set_cons_zero, List.set_cons_succ]
          refine wpAnyH_take (i := 41) (oi := { dst := some 134, op := Op.move (Operand.tmp 133), type := 4, pos := "law.go:69", after := #[{ on := 40, ground := Ground.data }, { on := 35, ground := Ground.chain }], guard := none }) (v := ?va41) rfl (by kernel_rfl) (by kernel_rfl) (by kernel_rfl) (fun _ _ _ h => h) (Or.inl ⟨by rfl, ?ya41⟩) (by assumption) ?ra41
          case ya41 => (intro w hSw; (try dsimp only at hSw); go_simp; (try with_reducible rfl))
          try simp only [Act.put, List.setIfInBounds_toArray, List.set_cons_zero, List.set_cons_succ]
          refine wpAnyH_take (i := 42) (oi := { dst := some 135, op := Op.move (Operand.tmp 7), type := 23, pos := "law.go:69", after := #[{ on := 41, ground := Ground.guard }], guard := some (41, false) }) (v := ?va42) rfl (by kernel_rfl) (by kernel_rfl) (by kernel_rfl) (fun _ _ _ h => h) (Or.inl ⟨by rfl, ?ya42⟩) (by assumption) ?ra42
          case ya42 => (intro w hSw; (try dsimp only at hSw); go_simp; (try with_reducible rfl))
          try simp only [Act.put, List.setIfInBounds_toArray, List.set_cons_zero, List.set_cons_succ]
          refine wpAnyH_take (i := 43) (oi := { dst := some 136, op := Op.move (Operand.tmp 1), type := 2, pos := "law.go:69", after := #[{ on := 41, ground := Ground.guard }], guard := some (41, false) }) (v := ?va43) rfl (by kernel_rfl) (by kernel_rfl) (by kernel_rfl) (fun _ _ _ h => h) (Or.inl ⟨by rfl, ?ya43⟩) (by assumption) ?ra43
          case ya43 => (intro w hSw; (try dsimp only at hSw); go_simp; (try with_reducible rfl))
          try simp only [Act.put, List.setIfInBounds_toArray, List.set_cons_zero, List.set_cons_succ]
          refine wpAnyH_take (i := 44) (oi := { dst := some 137, op := Op.move (Operand.tmp 2), type := 3, pos := "law.go:69", after := #[{ on := 41, ground := Ground.guard }], guard := some (41, false) }) (v := ?va44) rfl (by kernel_rfl) (by kernel_rfl) (by kernel_rfl) (fun _ _ _ h => h) (Or.inl ⟨by rfl, ?ya44⟩) (by assumption) ?ra44
          case ya44 => (intro w hSw; (try dsimp only at hSw); go_simp; (try with_reducible rfl))
          try simp only [Act.put, List.setIfInBounds_toArray, List.set_cons_zero, List.set_cons_succ]
          refine wpAnyH_take (i := 46) (oi := { dst := some 139, op := Op.move (Operand.tmp 8), type := 32, pos := "law.go:69", after := #[{ on := 41, ground := Ground.guard }], guard := some (41, false) }) (v := ?va46) rfl (by kernel_rfl) (by kernel_rfl) (by kernel_rfl) (fun _ _ _ h => h) (Or.inl ⟨by rfl, ?ya46⟩) (by assumption) ?ra46
          case ya46 => (intro w hSw; (try dsimp only at hSw); go_simp; (try with_reducible rfl))
          try simp only [Act.put, List.setIfInBounds_toArray, List.set_cons_zero, List.set_cons_succ]
          refine wpAnyH_take (i := 47) (oi := { dst := some 140, op := Op.move (Operand.tmp 1), type := 2, pos := "law.go:69", after := #[{ on := 41, ground := Ground.guard }], guard := some (41, false) }) (v := ?va47) rfl (by kernel_rfl) (by kernel_rfl) (by kernel_rfl) (fun _ _ _ h => h) (Or.inl ⟨by rfl, ?ya47⟩) (by assumption) ?ra47
          case ya47 => (intro w hSw; (try dsimp only at hSw); go_simp; (try with_reducible rfl))
          try simp only [Act.put, List.setIfInBounds_toArray, List.set_cons_zero, List.set_cons_succ]
          refine wpAnyH_take (i := 48) (oi := { dst := some 141, op := Op.move (Operand.tmp 2), type := 3, pos := "law.go:69", after := #[{ on := 41, ground := Ground.guard }], guard := some (41, false) }) (v := ?va48) rfl (by kernel_rfl) (by kernel_rfl) (by kernel_rfl) (fun _ _ _ h => h) (Or.inl ⟨by rfl, ?ya48⟩) (by assumption) ?ra48
          case ya48 => (intro w hSw; (try dsimp only at hSw); go_simp; (try with_reducible rfl))
          try simp only [Act.put, List.setIfInBounds_toArray, List.set_cons_zero, List.set_cons_succ]
          refine wpAnyH_ready (rs := [45]) (by kernel_rfl) (by simp) ?_
          refine AllReadyH.cons (o := { dst := some 138, op := Op.call { callee := Callee.value (Operand.func 19), args := #[Operand.tmp 135, Operand.tmp 136, Operand.tmp 137], argTypes := #[23, 2, 3] }, type := 45, pos := "law.go:69", after := #[{ on := 42, ground := Ground.data }, { on := 43, ground := Ground.data }, { on := 44, ground := Ground.data }, { on := 41, ground := Ground.chain }, { on := 41, ground := Ground.guard }], guard := some (41, false) }) rfl (fun K hK => ?_) AllReadyH.nil
          go_simp
          refine HDd.out.mono ?_; rintro en8 w10 ⟨v8, rfl, hR8⟩; have HR8 := Lib.hid hR8; have S2 := Lib.hid (SB.out _ _ hR8.bel S1.out); obtain ⟨a8, c8, rfl, -, -, hI8, -⟩ := hR8.slice; have HI8 := Lib.hid hI8; have HE8 := Lib.hid (HRe.out w10 (HIx.out w10 hR8.bel)); clear hR8 hI8
          (try go_wp2_with fail)
          refine hK.out _ _ S2.out (fun hHeld => ?_)
          clear hK
          try simp only [Act.put, List.setIfInBounds_toArray, List.set_cons_zero, List.set_cons_succ]
          refine wpAnyH_ready (rs := [49]) (by kernel_rfl) (by simp) ?_
          refine AllReadyH.cons (o := { dst := some 142, op := Op.call { callee := Callee.value (Operand.func 20), args := #[Operand.tmp 139, Operand.tmp 140, Operand.tmp 141], argTypes := #[32, 2, 3] }, type := 45, pos := "law.go:69", after := #[{ on := 46, ground := Ground.data }, { on := 47, ground := Ground.data }, { on := 48, ground := Ground.data }, { on := 45, ground := Ground.chain }, { on := 41, ground := Ground.guard }], guard := some (41, false) }) rfl (fun K hK => ?_) AllReadyH.nil
          go_simp
          refine HE8.out.mono ?_; rintro en9 w11 ⟨v9, rfl, hR9⟩; have HR9 := Lib.hid hR9; have S3 := Lib.hid (SB.out _ _ hR9.bel S2.out); obtain ⟨a9, c9, rfl, -, -, hI9, -⟩ := hR9.slice; have HI9 := Lib.hid hI9; clear hR9 hI9
          (try go_wp2_with fail)
          refine hK.out _ _ S3.out (fun hHeld => ?_)
          clear hK
          try simp only [Act.put, List.setIfInBounds_toArray, List.set_cons_zero, List.set_cons_succ]
          refine wpAnyH_ready (rs := [50]) (by kernel_rfl) (by simp) ?_
          refine AllReadyH.cons (o := { dst := some 143, op := Op.call { callee := Callee.value (Operand.func 18), args := #[Operand.tmp 138, Operand.tmp 142], argTypes := #[45, 45] }, type := 4, pos := "law.go:69", after := #[{ on := 45, ground := Ground.data }, { on := 49, ground := Ground.data }, { on := 49, ground := Ground.chain }, { on := 41, ground := Ground.guard }], guard := some (41, false) }) rfl (fun K hK => ?_) AllReadyH.nil
          go_simp
          refine (same_calls w11 a8 a9 c8 c9 Q HDl.out (HI8.out.below HR9.out.bel) HI9.out).mono ?_; rintro en10 w12 ⟨rfl, hb12⟩; have HB12 := Lib.hid hb12; have S4 := Lib.hid (SB.out _ _ hb12 S3.out); clear hb12
          (try go_wp2_with fail)
          refine hK.out _ _ S4.out (fun hHeld => ?_)
          clear hK
          try simp only [Act.put, List.setIfInBounds_toArray, List.set_cons_zero, List.set_cons_succ]
          refine wpAnyH_take (i := 51) (oi := { dst := some 144, op := Op.unOp UnOp.not 4 (Operand.tmp 143), type := 4, pos := "law.go:69", after := #[{ on := 50, ground := Ground.data }, { on := 41, ground := Ground.guard }], guard := some (41, false) }) (v := ?va51) rfl (by kernel_rfl) (by kernel_rfl) (by kernel_rfl) (fun _ _ _ h => h) (Or.inl ⟨by rfl, ?ya51⟩) (by assumption) ?ra51
          case ya51 => (intro w hSw; (try dsimp only at hSw); go_simp; (try with_reducible rfl))
          try simp only [Act.put, List.setIfInBounds_toArray, List.set_cons_zero, List.set_cons_succ]
          refine wpAnyH_take (i := 52) (oi := { dst := some 145, op := Op.pick (Operand.tmp 134) (Operand.const (Value.bool true)) (Operand.tmp 144), type := 4, pos := "law.go:69", after := #[{ on := 41, ground := Ground.data }, { on := 51, ground := Ground.data }], guard := none }) (v := ?va52) rfl (by kernel_rfl) (by kernel_rfl) (by kernel_rfl) (fun _ _ _ h => h) (Or.inl ⟨by rfl, ?ya52⟩) (by assumption) ?ra52
          case ya52 => (intro w hSw; (try dsimp only at hSw); go_simp; (try with_reducible rfl))
          try simp only [Act.put, List.setIfInBounds_toArray, List.set_cons_zero, List.set_cons_succ]
          refine wpAnyH_done (by kernel_rfl) ?_ _
          all_goals (
            have HR12 : Hid (EC w2 T w12 K6 (some ⟨lb, lo, none⟩) K6 (fun _ => False)) := Lib.hid ((((HRd.out.bel HR8.out.bel).bel HR9.out.bel).bel HB12.out).less fun x hx => hx.elim)
            clear HRd HLd HDd HIx HR1
            go_wp2_with fail
            go_roundg (gk - 1)
            case measure => omega
            case rel => exact ⟨i + 1, _, _, _, by go_num, by omega, by omega, rfl, by omega, HR12⟩)
        case neg =>
          rw [decide_eq_false hne] at HNx
          go_wp2_with fail
          refine HNx.out.mono ?_; rintro en w8 ⟨rfl, hb8⟩
          have H9 := Lib.hid ((H7.out.bel hb8).bel (bbox (.cells #[.int .i64 z0, .string q0] 26)))
          have y0 : (w8.alloc (.cells #[.int .i64 z0, .string q0] 26)).cell? ⟨w8.heap.size, 0, none⟩ = some (.int .i64 z0) := by rw [World.cell?_alloc_new]; rfl
          have y1 : (w8.alloc (.cells #[.int .i64 z0, .string q0] 26)).cell? ⟨w8.heap.size, 0 + 1, none⟩ = some (.string q0) := by rw [World.cell?_alloc_new]; rfl
          clear hb8 HNx H7
          go_wp2_with fail
          generalize w8.alloc (.cells #[.int .i64 z0, .string q0] 26) = w9 at *
          generalize w8.heap.size = bd at *
          have hK0 : K6 = [] := List.eq_nil_of_length_eq_zero (by omega)
          have e1 : z0 = 0 := by rw [← HZ0.out, hK0]; rfl
          have e2 : q0 = ⟨#[]⟩ := by rw [← HQ0.out, hK0]; rfl
          subst e1 e2
          clear hK0
          have hneI : ¬ (0 : Int) < (K6.length : Int) := by omega
          have hns := fun W => neqD_same W 0 ⟨#[]⟩
          have HRe := Lib.hid (fun u (hI : InD u a6 K6) => refDue_calls u a6 c6 K6 (by have := HL6.out; omega) hI now most)
          have HRd : Hid (EC w2 T w9.drew K6 a6 K6 (fun y => False ∨ y = bx)) := Lib.hid (H9.out.bel (Below.refl _ _).drew)
          have S1 : Hid ((fun w' : World => w'.cell? ⟨bd, 0, none⟩ = some (.int .i64 0) ∧ w'.cell? ⟨bd, 0 + 1, none⟩ = some (.string ⟨#[]⟩)) w9.drew) := Lib.hid ⟨y0, y1⟩
          have SB : Hid (∀ u u', Below u.heap.size u u' → (fun w' : World => w'.cell? ⟨bd, 0, none⟩ = some (.int .i64 0) ∧ w'.cell? ⟨bd, 0 + 1, none⟩ = some (.string ⟨#[]⟩)) u → (fun w' : World => w'.cell? ⟨bd, 0, none⟩ = some (.int .i64 0) ∧ w'.cell? ⟨bd, 0 + 1, none⟩ = some (.string ⟨#[]⟩)) u') := Lib.hid fun u u' hb hs => ⟨cell_bel hb hs.1, cell_bel hb hs.2⟩
          have HLd := Lib.hid HRd.out.len
          have HDd := Lib.hid (HRd.out.due (by have := HL6.out; omega) now most hm1 hm2)
          have HIx := Lib.hid (fun u (hb : Below w9.drew.heap.size w9.drew u) => HRd.out.list.below (Nat.le_refl _) hb)
          have HDl : Hid (((dueD now most.toNat K6).map (·.2)).length ≤ 1000000) := Lib.hid (by rw [List.length_map]; have := dueD_len now most.toNat K6; have := HL6.out; omega)
          have hl6 := HL6.out
          clear y0 y1 H9 H6x
          generalize (dueD now most.toNat K6).map (·.2) = Q at *
          refine wp_region_held_drew (S := fun w' : World => w'.cell? ⟨bd, 0, none⟩ = some (.int .i64 0) ∧ w'.cell? ⟨bd, 0 + 1, none⟩ = some (.string ⟨#[]⟩)) (by kernel_rfl) S1.out (fun hHeld => ?_)
          refine wpAnyH_take (i := 0) (oi := { dst := some 93, op := Op.move (Operand.tmp 15), type := 2, pos := "law.go:69", after := #[], guard := none }) (v := ?vb0) rfl (by kernel_rfl) (by kernel_rfl) (by kernel_rfl) (fun _ _ _ h => h) (Or.inl ⟨by rfl, ?yb0⟩) (by assumption) ?rb0
          case yb0 => (intro w hSw; (try dsimp only at hSw); go_simp; (try with_reducible rfl))
          try simp only [Act.put, List.setIfInBounds_toArray, List.set_cons_zero, List.set_cons_succ]
          refine wpAnyH_take (i := 1) (oi := { dst := some 94, op := Op.move (Operand.tmp 17), type := 2, pos := "law.go:69", after := #[], guard := none }) (v := ?vb1) rfl (by kernel_rfl) (by kernel_rfl) (by kernel_rfl) (fun _ _ _ h => h) (Or.inl ⟨by rfl, ?yb1⟩) (by assumption) ?rb1
          case yb1 => (intro w hSw; (try dsimp only at hSw); go_simp; (try with_reducible rfl))
          try simp only [Act.put, List.setIfInBounds_toArray, List.set_cons_zero, List.set_cons_succ]
          refine wpAnyH_take (i := 2) (oi := { dst := some 95, op := Op.binOp BinOp.neq 2 (Operand.tmp 93) (Operand.tmp 94) 2, type := 4, pos := "law.go:69", after := #[{ on := 0, ground := Ground.data }, { on := 1, ground := Ground.data }], guard := none }) (v := ?vb2) rfl (by kernel_rfl) (by kernel_rfl) (by kernel_rfl) (fun _ _ _ h => h) (Or.inl ⟨by rfl, ?yb2⟩) (by assumption) ?rb2
          case yb2 => (intro w hSw; (try dsimp only at hSw); go_simp; (try with_reducible rfl))
          try simp only [Act.put, List.setIfInBounds_toArray, List.set_cons_zero, List.set_cons_succ]
          refine wpAnyH_take (i := 3) (oi := { dst := some 96, op := Op.move (Operand.tmp 95), type := 4, pos := "law.go:69", after := #[{ on := 2, ground := Ground.data }], guard := none }) (v := ?vb3) rfl (by kernel_rfl) (by kernel_rfl) (by kernel_rfl) (fun _ _ _ h => h) (Or.inl ⟨by rfl, ?yb3⟩) (by assumption) ?rb3
          case yb3 => (intro w hSw; (try dsimp only at hSw); go_simp; (try with_reducible rfl))
          try simp only [Act.put, List.setIfInBounds_toArray, List.set_cons_zero, List.set_cons_succ]
          refine wpAnyH_take (i := 4) (oi := { dst := some 97, op := Op.move (Operand.tmp 16), type := 4, pos := "law.go:69", after := #[{ on := 3, ground := Ground.guard }], guard := some (3, false) }) (v := ?vb4) rfl (by kernel_rfl) (by kernel_rfl) (by kernel_rfl) (fun _ _ _ h => h) (Or.inl ⟨by rfl, ?yb4⟩) (by assumption) ?rb4
          case yb4 => (intro w hSw; (try dsimp only at hSw); go_simp; (try with_reducible rfl))
          try simp only [Act.put, List.setIfInBounds_toArray, List.set_cons_zero, List.set_cons_succ]
          refine wpAnyH_take (i := 5) (oi := { dst := some 98, op := Op.move (Operand.tmp 18), type := 4, pos := "law.go:69", after := #[{ on := 3, ground := Ground.guard }], guard := some (3, false) }) (v := ?vb5) rfl (by kernel_rfl) (by kernel_rfl) (by kernel_rfl) (fun _ _ _ h => h) (Or.inl ⟨by rfl, ?yb5⟩) (by assumption) ?rb5
          case yb5 => (intro w hSw; (try dsimp only at hSw); go_simp; (try with_reducible rfl))
          try simp only [Act.put, List.setIfInBounds_toArray, List.set_cons_zero, List.set_cons_succ]
          refine wpAnyH_take (i := 6) (oi := { dst := some 99, op := Op.binOp BinOp.neq 4 (Operand.tmp 97) (Operand.tmp 98) 4, type := 4, pos := "law.go:69", after := #[{ on := 4, ground := Ground.data }, { on := 5, ground := Ground.data }, { on := 3, ground := Ground.guard }], guard := some (3, false) }) (v := ?vb6) rfl (by kernel_rfl) (by kernel_rfl) (by kernel_rfl) (fun _ _ _ h => h) (Or.inl ⟨by rfl, ?yb6⟩) (by assumption) ?rb6
          case yb6 => (intro w hSw; (try dsimp only at hSw); go_simp; (try with_reducible rfl))
          try simp only [Act.put, List.setIfInBounds_toArray, List.set_cons_zero, List.set_cons_succ]
          refine wpAnyH_take (i := 7) (oi := { dst := some 100, op := Op.pick (Operand.tmp 96) (Operand.const (Value.bool true)) (Operand.tmp 99), type := 4, pos := "law.go:69", after := #[{ on := 3, ground := Ground.data }, { on := 6, ground := Ground.data }], guard := none }) (v := ?vb7) rfl (by kernel_rfl) (by kernel_rfl) (by kernel_rfl) (fun _ _ _ h => h) (Or.inl ⟨by rfl, ?yb7⟩) (by assumption) ?rb7
          case yb7 => (intro w hSw; (try dsimp only at hSw); go_simp; (try with_reducible rfl))
          try simp only [Act.put, List.setIfInBounds_toArray, List.set_cons_zero, List.set_cons_succ]
          refine wpAnyH_take (i := 8) (oi := { dst := some 101, op := Op.move (Operand.tmp 100), type := 4, pos := "law.go:69", after := #[{ on := 7, ground := Ground.data }, { on := 3, ground := Ground.chain }], guard := none }) (v := ?vb8) rfl (by kernel_rfl) (by kernel_rfl) (by kernel_rfl) (fun _ _ _ h => h) (Or.inl ⟨by rfl, ?yb8⟩) (by assumption) ?rb8
          case yb8 => (intro w hSw; (try dsimp only at hSw); go_simp; (try with_reducible rfl))
          try simp only [Act.put, List.setIfInBounds_toArray, List.set_cons_zero, List.set_cons_succ]
          refine wpAnyH_take (i := 9) (oi := { dst := some 102, op := Op.move (Operand.tmp 7), type := 23, pos := "law.go:69", after := #[{ on := 8, ground := Ground.guard }], guard := some (8, false) }) (v := ?vb9) rfl (by kernel_rfl) (by kernel_rfl) (by kernel_rfl) (fun _ _ _ h => h) (Or.inl ⟨by rfl, ?yb9⟩) (by assumption) ?rb9
          case yb9 => (intro w hSw; (try dsimp only at hSw); go_simp; (try with_reducible rfl))
          try simp only [Act.put, List.setIfInBounds_toArray, List.set_cons_zero, List.set_cons_succ]
          refine wpAnyH_take (i := 11) (oi := { dst := some 104, op := Op.move (Operand.tmp 8), type := 32, pos := "law.go:69", after := #[{ on := 8, ground := Ground.guard }], guard := some (8, false) }) (v := ?vb11) rfl (by kernel_rfl) (by kernel_rfl) (by kernel_rfl) (fun _ _ _ h => h) (Or.inl ⟨by rfl, ?yb11⟩) (by assumption) ?rb11
          case yb11 => (intro w hSw; (try dsimp only at hSw); go_simp; (try with_reducible rfl))
          try simp only [Act.put, List.setIfInBounds_toArray, List.set_cons_zero, List.set_cons_succ]
          refine wpAnyH_take (i := 12) (oi := { dst := some 105, op := Op.call { callee := Callee.builtin Builtin.len, args := #[Operand.tmp 104], argTypes := #[32] }, type := 3, pos := "law.go:69", after := #[{ on := 11, ground := Ground.data }, { on := 8, ground := Ground.guard }], guard := some (8, false) }) (v := ?vb12) rfl (by kernel_rfl) (by kernel_rfl) (by kernel_rfl) (fun _ _ _ h => h) (Or.inl ⟨by rfl, ?yb12⟩) (by assumption) ?rb12
          case yb12 => (intro w hSw; (try dsimp only at hSw); go_simp; (try with_reducible rfl))
          try simp only [Act.put, List.setIfInBounds_toArray, List.set_cons_zero, List.set_cons_succ]
          refine wpAnyH_ready (rs := [10]) (by kernel_rfl) (by simp) ?_
          refine AllReadyH.cons (o := { dst := some 103, op := Op.call { callee := Callee.value (Operand.func 17), args := #[Operand.tmp 102], argTypes := #[23] }, type := 3, pos := "law.go:69", after := #[{ on := 9, ground := Ground.data }, { on := 8, ground := Ground.chain }, { on := 8, ground := Ground.guard }], guard := some (8, false) }) rfl (fun K hK => ?_) AllReadyH.nil
          go_simp
          refine HLd.out.mono ?_; rintro en8 w8 ⟨rfl, rfl⟩
          (try go_wp2_with fail)
          refine hK.out _ _ S1.out (fun hHeld => ?_)
          clear hK
          try simp only [Act.put, List.setIfInBounds_toArray, List.set_cons_zero, List.set_cons_succ]
          refine wpAnyH_take (i := 13) (oi := { dst := some 106, op := Op.binOp BinOp.neq 3 (Operand.tmp 103) (Operand.tmp 105) 3, type := 4, pos := "law.go:69", after := #[{ on := 10, ground := Ground.data }, { on := 12, ground := Ground.data }, { on := 8, ground := Ground.guard }], guard := some (8, false) }) (v := ?vb13) rfl (by kernel_rfl) (by kernel_rfl) (by kernel_rfl) (fun _ _ _ h => h) (Or.inl ⟨by rfl, ?yb13⟩) (by assumption) ?rb13
          case yb13 => (intro w hSw; (try dsimp only at hSw); go_simp; (try with_reducible rfl))
          try simp only [Act.put, List.setIfInBounds_toArray, List.set_cons_zero, List.set_cons_succ]
          refine wpAnyH_take (i := 14) (oi := { dst := some 107, op := Op.pick (Operand.tmp 101) (Operand.const (Value.bool true)) (Operand.tmp 106), type := 4, pos := "law.go:69", after := #[{ on := 8, ground := Ground.data }, { on := 13, ground := Ground.data }], guard := none }) (v := ?vb14) rfl (by kernel_rfl) (by kernel_rfl) (by kernel_rfl) (fun _ _ _ h => h) (Or.inl ⟨by rfl, ?yb14⟩) (by assumption) ?rb14
          case yb14 => (intro w hSw; (try dsimp only at hSw); go_simp; (try with_reducible rfl))
          try simp only [Act.put, List.setIfInBounds_toArray, List.set_cons_zero, List.set_cons_succ]
          refine wpAnyH_take (i := 15) (oi := { dst := some 108, op := Op.move (Operand.tmp 107), type := 4, pos := "law.go:69", after := #[{ on := 14, ground := Ground.data }, { on := 10, ground := Ground.chain }], guard := none }) (v := ?vb15) rfl (by kernel_rfl) (by kernel_rfl) (by kernel_rfl) (fun _ _ _ h => h) (Or.inl ⟨by rfl, ?yb15⟩) (by assumption) ?rb15
          case yb15 => (intro w hSw; (try dsimp only at hSw); go_simp; (try with_reducible rfl))
          try simp only [Act.put, List.setIfInBounds_toArray, List.set_cons_zero, List.set_cons_succ]
          refine wpAnyH_take (i := 16) (oi := { dst := some 109, op := Op.move (Operand.tmp 20), type := 4, pos := "law.go:69", after := #[{ on := 15, ground := Ground.guard }], guard := some (15, false) }) (v := ?vb16) rfl (by kernel_rfl) (by kernel_rfl) (by kernel_rfl) (fun _ _ _ h => h) (Or.inl ⟨by rfl, ?yb16⟩) (by assumption) ?rb16
          case yb16 => (intro w hSw; (try dsimp only at hSw); go_simp; (try with_reducible rfl))
          try simp only [Act.put, List.setIfInBounds_toArray, List.set_cons_zero, List.set_cons_succ]
          refine wpAnyH_take (i := 17) (oi := { dst := some 110, op := Op.move (Operand.tmp 8), type := 32, pos := "law.go:69", after := #[{ on := 15, ground := Ground.guard }], guard := some (15, false) }) (v := ?vb17) rfl (by kernel_rfl) (by kernel_rfl) (by kernel_rfl) (fun _ _ _ h => h) (Or.inl ⟨by rfl, ?yb17⟩) (by assumption) ?rb17
          case yb17 => (intro w hSw; (try dsimp only at hSw); go_simp; (try with_reducible rfl))
          try simp only [Act.put, List.setIfInBounds_toArray, List.set_cons_zero, List.set_cons_succ]
          refine wpAnyH_take (i := 18) (oi := { dst := some 111, op := Op.call { callee := Callee.builtin Builtin.len, args := #[Operand.tmp 110], argTypes := #[32] }, type := 3, pos := "law.go:69", after := #[{ on := 17, ground := Ground.data }, { on := 15, ground := Ground.guard }], guard := some (15, false) }) (v := ?vb18) rfl (by kernel_rfl) (by kernel_rfl) (by kernel_rfl) (fun _ _ _ h => h) (Or.inl ⟨by rfl, ?yb18⟩) (by assumption) ?rb18
          case yb18 => (intro w hSw; (try dsimp only at hSw); go_simp; (try with_reducible rfl))
          try simp only [Act.put, List.setIfInBounds_toArray, List.set_cons_zero, List.set_cons_succ]
          refine wpAnyH_take (i := 19) (oi := { dst := some 112, op := Op.binOp BinOp.gtr 3 (Operand.tmp 111) (Operand.const (Value.int IntKind.i64 0)) 3, type := 4, pos := "law.go:69", after := #[{ on := 18, ground := Ground.data }, { on := 15, ground := Ground.guard }], guard := some (15, false) }) (v := ?vb19) rfl (by kernel_rfl) (by kernel_rfl) (by kernel_rfl) (fun _ _ _ h => h) (Or.inl ⟨by rfl, ?yb19⟩) (by assumption) ?rb19
          case yb19 => (intro w hSw; (try dsimp only at hSw); go_simp; (try with_reducible rfl))
          try simp only [Act.put, List.setIfInBounds_toArray, List.set_cons_zero, List.set_cons_succ]
          refine wpAnyH_take (i := 20) (oi := { dst := some 113, op := Op.binOp BinOp.neq 4 (Operand.tmp 109) (Operand.tmp 112) 4, type := 4, pos := "law.go:69", after := #[{ on := 16, ground := Ground.data }, { on := 19, ground := Ground.data }, { on := 15, ground := Ground.guard }], guard := some (15, false) }) (v := ?vb20) rfl (by kernel_rfl) (by kernel_rfl) (by kernel_rfl) (fun _ _ _ h => h) (Or.inl ⟨by rfl, ?yb20⟩) (by assumption) ?rb20
          case yb20 => (intro w hSw; (try dsimp only at hSw); go_simp; (try with_reducible rfl))
          try simp only [Act.put, List.setIfInBounds_toArray, List.set_cons_zero, List.set_cons_succ]
          refine wpAnyH_take (i := 21) (oi := { dst := some 114, op := Op.pick (Operand.tmp 108) (Operand.const (Value.bool true)) (Operand.tmp 113), type := 4, pos := "law.go:69", after := #[{ on := 15, ground := Ground.data }, { on := 20, ground := Ground.data }], guard := none }) (v := ?vb21) rfl (by kernel_rfl) (by kernel_rfl) (by kernel_rfl) (fun _ _ _ h => h) (Or.inl ⟨by rfl, ?yb21⟩) (by assumption) ?rb21
          case yb21 => (intro w hSw; (try dsimp only at hSw); go_simp; (try with_reducible rfl))
          try simp only [Act.put, List.setIfInBounds_toArray, List.set_cons_zero, List.set_cons_succ]
          refine wpAnyH_take (i := 22) (oi := { dst := some 115, op := Op.move (Operand.tmp 114), type := 4, pos := "law.go:69", after := #[{ on := 21, ground := Ground.data }, { on := 15, ground := Ground.chain }], guard := none }) (v := ?vb22) rfl (by kernel_rfl) (by kernel_rfl) (by kernel_rfl) (fun _ _ _ h => h) (Or.inl ⟨by rfl, ?yb22⟩) (by assumption) ?rb22
          case yb22 => (intro w hSw; (try dsimp only at hSw); go_simp; (try with_reducible rfl))
          try simp only [Act.put, List.setIfInBounds_toArray, List.set_cons_zero, List.set_cons_succ]
          refine wpAnyH_take (i := 23) (oi := { dst := some 116, op := Op.move (Operand.tmp 20), type := 4, pos := "law.go:69", after := #[{ on := 22, ground := Ground.guard }], guard := some (22, false) }) (v := ?vb23) rfl (by kernel_rfl) (by kernel_rfl) (by kernel_rfl) (fun _ _ _ h => h) (Or.inl ⟨by rfl, ?yb23⟩) (by assumption) ?rb23
          case yb23 => (intro w hSw; (try dsimp only at hSw); go_simp; (try with_reducible rfl))
          try simp only [Act.put, List.setIfInBounds_toArray, List.set_cons_zero, List.set_cons_succ]
          refine wpAnyH_take (i := 24) (oi := { dst := some 117, op := Op.move (Operand.tmp 116), type := 4, pos := "law.go:69", after := #[{ on := 23, ground := Ground.data }, { on := 22, ground := Ground.chain }, { on := 22, ground := Ground.guard }], guard := some (22, false) }) (v := ?vb24) rfl (by kernel_rfl) (by kernel_rfl) (by kernel_rfl) (fun _ _ _ h => h) (Or.inl ⟨by rfl, ?yb24⟩) (by assumption) ?rb24
          case yb24 => (intro w hSw; (try dsimp only at hSw); go_simp; (try with_reducible rfl))
          try simp only [Act.put, List.setIfInBounds_toArray, List.set_cons_zero, List.set_cons_succ]
          refine wpAnyH_take (i := 25) (oi := { dst := some 118, op := Op.load 26 (Operand.tmp 19), type := 26, pos := "law.go:69", after := #[{ on := 24, ground := Ground.guard }], guard := some (24, true) }) (v := undef) rfl (by kernel_rfl) (by kernel_rfl) (by kernel_rfl) (fun _ _ _ h => h) (Or.inr ⟨by rfl, rfl⟩) (by assumption) ?_
          try simp only [Act.put, List.setIfInBounds_toArray, List.set_cons_zero, List.set_cons_succ]
          refine wpAnyH_take (i := 26) (oi := { dst := some 119, op := Op.move (Operand.tmp 8), type := 32, pos := "law.go:69", after := #[{ on := 24, ground := Ground.guard }], guard := some (24, true) }) (v := undef) rfl (by kernel_rfl) (by kernel_rfl) (by kernel_rfl) (fun _ _ _ h => h) (Or.inr ⟨by rfl, rfl⟩) (by assumption) ?_
          try simp only [Act.put, List.setIfInBounds_toArray, List.set_cons_zero, List.set_cons_succ]
          refine wpAnyH_take (i := 27) (oi := { dst := some 120, op := Op.indexAddr 32 (Operand.tmp 119) (Operand.const (Value.int IntKind.i64 0)), type := 0, pos := "law.go:69", after := #[{ on := 26, ground := Ground.data }, { on := 24, ground := Ground.guard }], guard := some (24, true) }) (v := undef) rfl (by kernel_rfl) (by kernel_rfl) (by kernel_rfl) (fun _ _ _ h => h) (Or.inr ⟨by rfl, rfl⟩) (by assumption) ?_
          try simp only [Act.put, List.setIfInBounds_toArray, List.set_cons_zero, List.set_cons_succ]
          refine wpAnyH_take (i := 28) (oi := { dst := some 121, op := Op.load 26 (Operand.tmp 120), type := 26, pos := "law.go:69", after := #[{ on := 27, ground := Ground.data }, { on := 24, ground := Ground.guard }], guard := some (24, true) }) (v := undef) rfl (by kernel_rfl) (by kernel_rfl) (by kernel_rfl) (fun _ _ _ h => h) (Or.inr ⟨by rfl, rfl⟩) (by assumption) ?_
          try simp only [Act.put, List.setIfInBounds_toArray, List.set_cons_zero, List.set_cons_succ]
          refine wpAnyH_take (i := 29) (oi := { dst := some 122, op := Op.binOp BinOp.neq 26 (Operand.tmp 118) (Operand.tmp 121) 26, type := 4, pos := "law.go:69", after := #[{ on := 25, ground := Ground.data }, { on := 28, ground := Ground.data }, { on := 24, ground := Ground.guard }], guard := some (24, true) }) (v := undef) rfl (by kernel_rfl) (by kernel_rfl) (by kernel_rfl) (fun _ _ _ h => h) (Or.inr ⟨by rfl, rfl⟩) (by assumption) ?_
          try simp only [Act.put, List.setIfInBounds_toArray, List.set_cons_zero, List.set_cons_succ]
          refine wpAnyH_take (i := 30) (oi := { dst := some 123, op := Op.pick (Operand.tmp 117) (Operand.tmp 122) (Operand.const (Value.bool false)), type := 4, pos := "law.go:69", after := #[{ on := 24, ground := Ground.data }, { on := 29, ground := Ground.data }, { on := 22, ground := Ground.guard }], guard := some (22, false) }) (v := ?vb30) rfl (by kernel_rfl) (by kernel_rfl) (by kernel_rfl) (fun _ _ _ h => h) (Or.inl ⟨by rfl, ?yb30⟩) (by assumption) ?rb30
          case yb30 => (intro w hSw; (try dsimp only at hSw); go_simp; (try with_reducible rfl))
          try simp only [Act.put, List.setIfInBounds_toArray, List.set_cons_zero, List.set_cons_succ]
          refine wpAnyH_take (i := 31) (oi := { dst := some 124, op := Op.pick (Operand.tmp 115) (Operand.const (Value.bool true)) (Operand.tmp 123), type := 4, pos := "law.go:69", after := #[{ on := 22, ground := Ground.data }, { on := 30, ground := Ground.data }], guard := none }) (v := ?vb31) rfl (by kernel_rfl) (by kernel_rfl) (by kernel_rfl) (fun _ _ _ h => h) (Or.inl ⟨by rfl, ?yb31⟩) (by assumption) ?rb31
          case yb31 => (intro w hSw; (try dsimp only at hSw); go_simp; (try with_reducible rfl))
          try simp only [Act.put, List.setIfInBounds_toArray, List.set_cons_zero, List.set_cons_succ]
          refine wpAnyH_take (i := 32) (oi := { dst := some 125, op := Op.move (Operand.tmp 124), type := 4, pos := "law.go:69", after := #[{ on := 31, ground := Ground.data }, { on := 24, ground := Ground.chain }], guard := none }) (v := ?vb32) rfl (by kernel_rfl) (by kernel_rfl) (by kernel_rfl) (fun _ _ _ h => h) (Or.inl ⟨by rfl, ?yb32⟩) (by assumption) ?rb32
          case yb32 => (intro w hSw; (try dsimp only at hSw); go_simp; (try with_reducible rfl))
          try simp only [Act.put, List.setIfInBounds_toArray, List.set_cons_zero, List.set_cons_succ]
          refine wpAnyH_take (i := 33) (oi := { dst := some 126, op := Op.move (Operand.tmp 20), type := 4, pos := "law.go:69", after := #[{ on := 32, ground := Ground.guard }], guard := some (32, false) }) (v := ?vb33) rfl (by kernel_rfl) (by kernel_rfl) (by kernel_rfl) (fun _ _ _ h => h) (Or.inl ⟨by rfl, ?yb33⟩) (by assumption) ?rb33
          case yb33 => (intro w hSw; (try dsimp only at hSw); go_simp; (try with_reducible rfl))
          try simp only [Act.put, List.setIfInBounds_toArray, List.set_cons_zero, List.set_cons_succ]
          refine wpAnyH_take (i := 34) (oi := { dst := some 127, op := Op.unOp UnOp.not 4 (Operand.tmp 126), type := 4, pos := "law.go:69", after := #[{ on := 33, ground := Ground.data }, { on := 32, ground := Ground.guard }], guard := some (32, false) }) (v := ?vb34) rfl (by kernel_rfl) (by kernel_rfl) (by kernel_rfl) (fun _ _ _ h => h) (Or.inl ⟨by rfl, ?yb34⟩) (by assumption) ?rb34
          case yb34 => (intro w hSw; (try dsimp only at hSw); go_simp; (try with_reducible rfl))
          try simp only [Act.put, List.setIfInBounds_toArray, List.set_cons_zero, List.set_cons_succ]
          refine wpAnyH_take (i := 35) (oi := { dst := some 128, op := Op.move (Operand.tmp 127), type := 4, pos := "law.go:69", after := #[{ on := 34, ground := Ground.data }, { on := 32, ground := Ground.chain }, { on := 32, ground := Ground.guard }], guard := some (32, false) }) (v := ?vb35) rfl (by kernel_rfl) (by kernel_rfl) (by kernel_rfl) (fun _ _ _ h => h) (Or.inl ⟨by rfl, ?yb35⟩) (by assumption) ?rb35
          case yb35 => (intro w hSw; (try dsimp only at hSw); go_simp; (try with_reducible rfl))
          try simp only [Act.put, List.setIfInBounds_toArray, List.set_cons_zero, List.set_cons_succ]
          refine wpAnyH_take (i := 36) (oi := { dst := some 129, op := Op.load 26 (Operand.tmp 19), type := 26, pos := "law.go:69", after := #[{ on := 35, ground := Ground.guard }], guard := some (35, true) }) (v := ?vb36) rfl (by kernel_rfl) (by kernel_rfl) (by kernel_rfl) (fun _ _ _ h => h) (Or.inl ⟨by rfl, ?yb36⟩) (by assumption) ?rb36
          case yb36 => (intro w hSw; (try dsimp only at hSw); go_simp; (try with_reducible rfl))
          try simp only [Act.put, List.setIfInBounds_toArray, List.set_cons_zero, List.set_cons_succ]
          refine wpAnyH_take (i := 37) (oi := { dst := some 130, op := Op.build 26 #[], type := 26, pos := "law.go:69", after := #[{ on := 35, ground := Ground.guard }], guard := some (35, true) }) (v := ?vb37) rfl (by kernel_rfl) (by kernel_rfl) (by kernel_rfl) (fun _ _ _ h => h) (Or.inl ⟨by rfl, ?yb37⟩) (by assumption) ?rb37
          case yb37 => (intro w hSw; (try dsimp only at hSw); go_simp; (try with_reducible rfl))
          try simp only [Act.put, List.setIfInBounds_toArray, List.set_cons_zero, List.set_cons_succ]
          refine wpAnyH_take (i := 38) (oi := { dst := some 131, op := Op.binOp BinOp.neq 26 (Operand.tmp 129) (Operand.tmp 130) 26, type := 4, pos := "law.go:69", after := #[{ on := 36, ground := Ground.data }, { on := 37, ground := Ground.data }, { on := 35, ground := Ground.guard }], guard := some (35, true) }) (v := ?vb38) rfl (by kernel_rfl) (by kernel_rfl) (by kernel_rfl) (fun _ _ _ h => h) (Or.inl ⟨by rfl, ?yb38⟩) (by assumption) ?rb38
          case yb38 => (intro w hSw; (try dsimp only at hSw); go_simp; (try with_reducible rfl))
          try simp only [Act.put, List.setIfInBounds_toArray, List.set_cons_zero, List.set_cons_succ]
          refine wpAnyH_take (i := 39) (oi := { dst := some 132, op := Op.pick (Operand.tmp 128) (Operand.tmp 131) (Operand.const (Value.bool false)), type := 4, pos := "law.go:69", after := #[{ on := 35, ground := Ground.data }, { on := 38, ground := Ground.data }, { on := 32, ground := Ground.guard }], guard := some (32, false) }) (v := ?vb39) rfl (by kernel_rfl) (by kernel_rfl) (by kernel_rfl) (fun _ _ _ h => h) (Or.inl ⟨by rfl, ?yb39⟩) (by assumption) ?rb39
          case yb39 => (intro w hSw; (try dsimp only at hSw); go_simp; (try with_reducible rfl))
          try simp only [Act.put, List.setIfInBounds_toArray, List.set_cons_zero, List.set_cons_succ]
          refine wpAnyH_take (i := 40) (oi := { dst := some 133, op := Op.pick (Operand.tmp 125) (Operand.const (Value.bool true)) (Operand.tmp 132), type := 4, pos := "law.go:69", after := #[{ on := 32, ground := Ground.data }, { on := 39, ground := Ground.data }], guard := none }) (v := ?vb40) rfl (by kernel_rfl) (by kernel_rfl) (by kernel_rfl) (fun _ _ _ h => h) (Or.inl ⟨by rfl, ?yb40⟩) (by assumption) ?rb40
          case yb40 => (intro w hSw; (try dsimp only at hSw); go_simp; (try with_reducible rfl))
          try simp only [Act.put, List.setIfInBounds_toArray, List.set_cons_zero, List.set_cons_succ]
          refine wpAnyH_take (i := 41) (oi := { dst := some 134, op := Op.move (Operand.tmp 133), type := 4, pos := "law.go:69", after := #[{ on := 40, ground := Ground.data }, { on := 35, ground := Ground.chain }], guard := none }) (v := ?vb41) rfl (by kernel_rfl) (by kernel_rfl) (by kernel_rfl) (fun _ _ _ h => h) (Or.inl ⟨by rfl, ?yb41⟩) (by assumption) ?rb41
          case yb41 => (intro w hSw; (try dsimp only at hSw); go_simp; (try with_reducible rfl))
          try simp only [Act.put, List.setIfInBounds_toArray, List.set_cons_zero, List.set_cons_succ]
          refine wpAnyH_take (i := 42) (oi := { dst := some 135, op := Op.move (Operand.tmp 7), type := 23, pos := "law.go:69", after := #[{ on := 41, ground := Ground.guard }], guard := some (41, false) }) (v := ?vb42) rfl (by kernel_rfl) (by kernel_rfl) (by kernel_rfl) (fun _ _ _ h => h) (Or.inl ⟨by rfl, ?yb42⟩) (by assumption) ?rb42
          case yb42 => (intro w hSw; (try dsimp only at hSw); go_simp; (try with_reducible rfl))
          try simp only [Act.put, List.setIfInBounds_toArray, List.set_cons_zero, List.set_cons_succ]
          refine wpAnyH_take (i := 43) (oi := { dst := some 136, op := Op.move (Operand.tmp 1), type := 2, pos := "law.go:69", after := #[{ on := 41, ground := Ground.guard }], guard := some (41, false) }) (v := ?vb43) rfl (by kernel_rfl) (by kernel_rfl) (by kernel_rfl) (fun _ _ _ h => h) (Or.inl ⟨by rfl, ?yb43⟩) (by assumption) ?rb43
          case yb43 => (intro w hSw; (try dsimp only at hSw); go_simp; (try with_reducible rfl))
          try simp only [Act.put, List.setIfInBounds_toArray, List.set_cons_zero, List.set_cons_succ]
          refine wpAnyH_take (i := 44) (oi := { dst := some 137, op := Op.move (Operand.tmp 2), type := 3, pos := "law.go:69", after := #[{ on := 41, ground := Ground.guard }], guard := some (41, false) }) (v := ?vb44) rfl (by kernel_rfl) (by kernel_rfl) (by kernel_rfl) (fun _ _ _ h => h) (Or.inl ⟨by rfl, ?yb44⟩) (by assumption) ?rb44
          case yb44 => (intro w hSw; (try dsimp only at hSw); go_simp; (try with_reducible rfl))
          try simp only [Act.put, List.setIfInBounds_toArray, List.set_cons_zero, List.set_cons_succ]
          refine wpAnyH_take (i := 46) (oi := { dst := some 139, op := Op.move (Operand.tmp 8), type := 32, pos := "law.go:69", after := #[{ on := 41, ground := Ground.guard }], guard := some (41, false) }) (v := ?vb46) rfl (by kernel_rfl) (by kernel_rfl) (by kernel_rfl) (fun _ _ _ h => h) (Or.inl ⟨by rfl, ?yb46⟩) (by assumption) ?rb46
          case yb46 => (intro w hSw; (try dsimp only at hSw); go_simp; (try with_reducible rfl))
          try simp only [Act.put, List.setIfInBounds_toArray, List.set_cons_zero, List.set_cons_succ]
          refine wpAnyH_take (i := 47) (oi := { dst := some 140, op := Op.move (Operand.tmp 1), type := 2, pos := "law.go:69", after := #[{ on := 41, ground := Ground.guard }], guard := some (41, false) }) (v := ?vb47) rfl (by kernel_rfl) (by kernel_rfl) (by kernel_rfl) (fun _ _ _ h => h) (Or.inl ⟨by rfl, ?yb47⟩) (by assumption) ?rb47
          case yb47 => (intro w hSw; (try dsimp only at hSw); go_simp; (try with_reducible rfl))
          try simp only [Act.put, List.setIfInBounds_toArray, List.set_cons_zero, List.set_cons_succ]
          refine wpAnyH_take (i := 48) (oi := { dst := some 141, op := Op.move (Operand.tmp 2), type := 3, pos := "law.go:69", after := #[{ on := 41, ground := Ground.guard }], guard := some (41, false) }) (v := ?vb48) rfl (by kernel_rfl) (by kernel_rfl) (by kernel_rfl) (fun _ _ _ h => h) (Or.inl ⟨by rfl, ?yb48⟩) (by assumption) ?rb48
          case yb48 => (intro w hSw; (try dsimp only at hSw); go_simp; (try with_reducible rfl))
          try simp only [Act.put, List.setIfInBounds_toArray, List.set_cons_zero, List.set_cons_succ]
          refine wpAnyH_ready (rs := [45]) (by kernel_rfl) (by simp) ?_
          refine AllReadyH.cons (o := { dst := some 138, op := Op.call { callee := Callee.value (Operand.func 19), args := #[Operand.tmp 135, Operand.tmp 136, Operand.tmp 137], argTypes := #[23, 2, 3] }, type := 45, pos := "law.go:69", after := #[{ on := 42, ground := Ground.data }, { on := 43, ground := Ground.data }, { on := 44, ground := Ground.data }, { on := 41, ground := Ground.chain }, { on := 41, ground := Ground.guard }], guard := some (41, false) }) rfl (fun K hK => ?_) AllReadyH.nil
          go_simp
          refine HDd.out.mono ?_; rintro en8 w10 ⟨v8, rfl, hR8⟩; have HR8 := Lib.hid hR8; have S2 := Lib.hid (SB.out _ _ hR8.bel S1.out); obtain ⟨a8, c8, rfl, -, -, hI8, -⟩ := hR8.slice; have HI8 := Lib.hid hI8; have HE8 := Lib.hid (HRe.out w10 (HIx.out w10 hR8.bel)); clear hR8 hI8
          (try go_wp2_with fail)
          refine hK.out _ _ S2.out (fun hHeld => ?_)
          clear hK
          try simp only [Act.put, List.setIfInBounds_toArray, List.set_cons_zero, List.set_cons_succ]
          refine wpAnyH_ready (rs := [49]) (by kernel_rfl) (by simp) ?_
          refine AllReadyH.cons (o := { dst := some 142, op := Op.call { callee := Callee.value (Operand.func 20), args := #[Operand.tmp 139, Operand.tmp 140, Operand.tmp 141], argTypes := #[32, 2, 3] }, type := 45, pos := "law.go:69", after := #[{ on := 46, ground := Ground.data }, { on := 47, ground := Ground.data }, { on := 48, ground := Ground.data }, { on := 45, ground := Ground.chain }, { on := 41, ground := Ground.guard }], guard := some (41, false) }) rfl (fun K hK => ?_) AllReadyH.nil
          go_simp
          refine HE8.out.mono ?_; rintro en9 w11 ⟨v9, rfl, hR9⟩; have HR9 := Lib.hid hR9; have S3 := Lib.hid (SB.out _ _ hR9.bel S2.out); obtain ⟨a9, c9, rfl, -, -, hI9, -⟩ := hR9.slice; have HI9 := Lib.hid hI9; clear hR9 hI9
          (try go_wp2_with fail)
          refine hK.out _ _ S3.out (fun hHeld => ?_)
          clear hK
          try simp only [Act.put, List.setIfInBounds_toArray, List.set_cons_zero, List.set_cons_succ]
          refine wpAnyH_ready (rs := [50]) (by kernel_rfl) (by simp) ?_
          refine AllReadyH.cons (o := { dst := some 143, op := Op.call { callee := Callee.value (Operand.func 18), args := #[Operand.tmp 138, Operand.tmp 142], argTypes := #[45, 45] }, type := 4, pos := "law.go:69", after := #[{ on := 45, ground := Ground.data }, { on := 49, ground := Ground.data }, { on := 49, ground := Ground.chain }, { on := 41, ground := Ground.guard }], guard := some (41, false) }) rfl (fun K hK => ?_) AllReadyH.nil
          go_simp
          refine (same_calls w11 a8 a9 c8 c9 Q HDl.out (HI8.out.below HR9.out.bel) HI9.out).mono ?_; rintro en10 w12 ⟨rfl, hb12⟩; have HB12 := Lib.hid hb12; have S4 := Lib.hid (SB.out _ _ hb12 S3.out); clear hb12
          (try go_wp2_with fail)
          refine hK.out _ _ S4.out (fun hHeld => ?_)
          clear hK
          try simp only [Act.put, List.setIfInBounds_toArray, List.set_cons_zero, List.set_cons_succ]
          refine wpAnyH_take (i := 51) (oi := { dst := some 144, op := Op.unOp UnOp.not 4 (Operand.tmp 143), type := 4, pos := "law.go:69", after := #[{ on := 50, ground := Ground.data }, { on := 41, ground := Ground.guard }], guard := some (41, false) }) (v := ?vb51) rfl (by kernel_rfl) (by kernel_rfl) (by kernel_rfl) (fun _ _ _ h => h) (Or.inl ⟨by rfl, ?yb51⟩) (by assumption) ?rb51
          case yb51 => (intro w hSw; (try dsimp only at hSw); go_simp; (try with_reducible rfl))
          try simp only [Act.put, List.setIfInBounds_toArray, List.set_cons_zero, List.set_cons_succ]
          refine wpAnyH_take (i := 52) (oi := { dst := some 145, op := Op.pick (Operand.tmp 134) (Operand.const (Value.bool true)) (Operand.tmp 144), type := 4, pos := "law.go:69", after := #[{ on := 41, ground := Ground.data }, { on := 51, ground := Ground.data }], guard := none }) (v := ?vb52) rfl (by kernel_rfl) (by kernel_rfl) (by kernel_rfl) (fun _ _ _ h => h) (Or.inl ⟨by rfl, ?yb52⟩) (by assumption) ?rb52
          case yb52 => (intro w hSw; (try dsimp only at hSw); go_simp; (try with_reducible rfl))
          try simp only [Act.put, List.setIfInBounds_toArray, List.set_cons_zero, List.set_cons_succ]
          refine wpAnyH_done (by kernel_rfl) ?_ _
          all_goals (
            have HR12 : Hid (EC w2 T w12 K6 a6 K6 (fun _ => False)) := Lib.hid ((((HRd.out.bel HR8.out.bel).bel HR9.out.bel).bel HB12.out).less fun x hx => hx.elim)
            clear HRd HLd HDd HIx HR1
            go_wp2_with fail
            go_roundg (gk - 1)
            case measure => omega
            case rel => exact ⟨i + 1, _, _, _, by go_num, by omega, by omega, rfl, by omega, HR12⟩)
end Go.Proofs.Ytabhnnffohnecaa.Ea
