/- RecentRuns. No condition. -/
import Derived.Test.YtljobmohmbeafaaCaa
import Derived.Deep.RegionHeld3
namespace Go.Proofs.Ytljobmohmbeafaa.Ca
open Go.ChangeShapes Go.WideShapes Go.ChangeAt Go.RowKit Go.Maps Go.WideMaps
/-- An act: its kind, its key. -/
structure Ac where
  k : Int
  s : ByteArray
/-- Acts as they lie. -/
def InA (W : World) (a : Option Addr) (l : List Ac) : Prop := 0 < l.length → ∃ b o, a = some ⟨b, o, none⟩ ∧ b < W.heap.size ∧ ∀ i (h : i < l.length), W.cell? ⟨b, o + i * 2, none⟩ = some (.int .i64 l[i].k) ∧ W.cell? ⟨b, o + i * 2 + 1, none⟩ = some (.string l[i].s)
theorem InA.below {B : Nat} {w w' : World} {a : Option Addr} {l : List Ac} (h : InA w a l) (hB : w.heap.size ≤ B) (hb : Below B w w') : InA w' a l := fun hp => by
  obtain ⟨b, o, rfl, hlt, hc⟩ := h hp
  refine ⟨b, o, rfl, Nat.lt_of_lt_of_le hlt hb.size, fun i hi => ?_⟩
  have e : ∀ j, w'.cell? ⟨b, j, none⟩ = w.cell? ⟨b, j, none⟩ := fun j => hb.cell (p := ⟨b, j, none⟩) (Nat.lt_of_lt_of_le hlt hB)
  rw [e, e]
  exact hc i hi
set_option maxHeartbeats 8000000 in
set_option maxRecDepth 100000 in
theorem recentRuns (xa : Option Addr) (xc : Nat) (l : List Ac) (w : World) (hI : InA w xa l) (hS : ∀ i (h : i < l.length), l[i].s.size ≤ maxLen) (but : ByteArray) :
    Calls Try.prog 3 #[.slice xa l.length xc, .string but] w fun e w' => e = .returned (.bool true) ∧ Below w.heap.size w w' := by
  have HI := Lib.hid hI
  have HSZ := Lib.hid hS
  clear hI hS
  have HA := Lib.hid (recentAlive w)
  go_enter Try.func3, Try.ntmps3
  go_wp2_with fail
  refine HA.out.mono ?_; rintro en w2 ⟨rfl, hb2⟩
  have HB2 := Lib.hid hb2
  have HI2 := Lib.hid (HI.out.below (Nat.le_refl _) hb2)
  clear hb2 HA HI
  by_cases hl : 100 < l.length
  · have hlc : (100 : Int) < (l.length : Int) := by omega
    go_wp2_with fail
    go_ret
    exact ⟨rfl, HB2.out⟩
  have hlc : ¬ (100 : Int) < (l.length : Int) := by omega
  have HN := Lib.hid (rc_new w2 w2 (Below.refl _ _))
  go_wp2_with fail
  refine HN.out.mono ?_; rintro en w3 ⟨T, rfl, h3⟩
  have H3 := Lib.hid (h3.swap (bbox (.cells #[] 9)) (a' := some ⟨w3.heap.size, 0, none⟩) (G' := []) (fun i hi => absurd hi (Nat.not_lt_zero _)) (fun h => absurd h (Nat.lt_irrefl _)))
  clear h3 HN
  go_wp2_with fail
  generalize w3.alloc (.cells #[] 9) = w4 at *
  generalize hv0 : Value.slice (some ⟨w3.heap.size, 0, none⟩) 0 0 = v0 at *
  have HV0 := Lib.hid hv0
  clear hv0
  go_loopg [6, 8, 9, 10, 11, 12, 13, 14, 24] (l.length + 1) (fun g vl _ _ _ _ _ _ _ vi wr => ∃ (i : Nat) (K : List ByteArray) (a : Option Addr) (c : Nat), vi = .int .i64 i ∧ i ≤ l.length ∧ l.length - i ≤ g ∧ vl = .slice a K.length c ∧ K.length ≤ i ∧ Hid (RC w2 T wr K a K))
  case atStart => exact ⟨0, [], some ⟨w3.heap.size, 0, none⟩, 0, rfl, by omega, by omega, HV0.out.symm, Nat.le_refl _, H3⟩
  case round =>
    obtain ⟨i, K, a5, c5, rfl, hi, hg, rfl, hK, HR1⟩ := hrel
    clear H3
    by_cases hil : i < l.length
    case neg =>
      have hic : ¬ ((i : Int) < (l.length : Int)) := by omega
      have HBe := Lib.hid (HB2.out.trans (HR1.out.below.mono HB2.out.size))
      go_wp2_with fail
      go_ret
      exact ⟨rfl, HBe.out⟩
    case pos =>
      have hic : (i : Int) < (l.length : Int) := by omega
      obtain ⟨b, o, rfl, hlt, hc⟩ := HI2.out (by omega)
      obtain ⟨c0, c1⟩ := hc i hil
      have e : ∀ j, wr.cell? ⟨b, j, none⟩ = w2.cell? ⟨b, j, none⟩ := fun j => HR1.out.below.cell (p := ⟨b, j, none⟩) hlt
      rw [← e] at c0 c1
      have HS := Lib.hid (HSZ.out i hil)
      clear hc e hlt
      generalize l[i].s = s at *
      generalize l[i].k = k at *
      cases hk0 : (k == (0 : Int))
      case true =>
        have hk2 := hk0
        have HX := Lib.hid (fun wb (hw : Below wr.heap.size wr wb) => HR1.out.touch hw s HS.out (by omega))
        go_wp2_with fail
        refine (HX.out _ (bbox _)).mono ?_; rintro en w5 ⟨rfl, h5, hst⟩
        have hc5 : w5.cell? ⟨wr.heap.size, 1, none⟩ = some (.string s) := hst.cell (Nat.le_refl _) (by rw [World.cell?_alloc_new]; rfl)
        have HY := Lib.hid (refTouch_calls w5 a5 c5 K (by omega) h5.list s)
        have H5 := Lib.hid h5
        clear h5 hst HX c0 c1
        generalize hbx : wr.heap.size = bx at *
        have HBX := Lib.hid hbx
        clear hbx
        generalize inK s K = b5 at *
        go_wp2_with fail
        refine HY.out.mono ?_; rintro en w6 ⟨v6, rfl, hR6⟩
        obtain ⟨a6, c6, rfl, -, -, hI6, hO6⟩ := hR6.slice
        have h6 := H5.out.swap hR6.bel hI6 hO6
        have hc6 : w6.cell? ⟨bx, 1, none⟩ = some (.string s) := (hR6.bel.cell (p := ⟨bx, 1, none⟩) (World.block_lt_of_cell? _ _ hc5)).trans hc5
        have HL6 : Hid ((touchK s K).length ≤ i + 1) := Lib.hid (by have := touchK_le s K; omega)
        clear hR6 hI6 hO6 hc5 H5 HY
        generalize touchK s K = K6 at *
        have HM6 := Lib.hid hc6
        have HO1 := Lib.hid (h6.oldest but (oldK but K6) (Lib.hid rfl))
        have HO2 := Lib.hid (refOldest_calls w6 a6 c6 K6 (by have := HL6.out; omega) h6.list but (oldK but K6) (Lib.hid rfl))
        have HR6 := Lib.hid h6
        clear h6 hc6
        generalize oldK but K6 = u6 at *
        go_wp2_with fail
        refine HO1.out.mono ?_; rintro en w7 ⟨rfl, rfl⟩
        go_wp2_with fail
        refine HO2.out.mono ?_; rintro en w7 ⟨rfl, rfl⟩
        clear HO1 HO2
        generalize u6.getD ⟨#[]⟩ = o6 at *
        generalize u6.isSome = p6 at *
        go_wp2_with fail
        have HRd : Hid (RC w2 T w6.drew K6 a6 K6) := Lib.hid (HR6.out.bel (Below.refl _ _).drew)
        have S1 : Hid (w6.drew.cell? ⟨bx, 1, none⟩ = some (.string s)) := HM6
        have HLd := Lib.hid HRd.out.len
        have HHd := Lib.hid (HRd.out.has s HS.out (inK s K6) (Lib.hid rfl))
        have HHe := Lib.hid (refHas_calls w6.drew a6 c6 K6 (by have := HL6.out; omega) HRd.out.list s (inK s K6) (Lib.hid rfl))
        have HAd := Lib.hid (HRd.out.all (by have := HL6.out; omega))
        generalize inK s K6 = b6 at *
        have HSm := Lib.hid (fun w' v (hR : RowT w6.drew w' v K6) => HRd.out.list.below hR.bel)
        have hl6 := HL6.out
        clear HM6 hk0 hk2
        go_region_held3 (fun w' : World => w'.cell? ⟨bx, 1, none⟩ = some (.string s))
          (first | exact S1.out | exact S2.out | exact S3.out)
          (first
            | (go_at_call 15; with_reducible refine HLd.out.mono ?_; rintro en8 w8 ⟨rfl, rfl⟩)
            | (go_at_call 16; with_reducible refine HHd.out.mono ?_; rintro en8 w8 ⟨rfl, rfl⟩)
            | (go_at_call 17; with_reducible refine HHe.out.mono ?_; rintro en8 w8 ⟨rfl, rfl⟩)
            | (go_at_call 19; with_reducible refine HAd.out.mono ?_; rintro en8 w8 ⟨v8, rfl, hR8⟩; have HR8 := Lib.hid hR8; have S2 : Hid (w8.cell? ⟨bx, 1, none⟩ = some (.string s)) := Lib.hid ((hR8.bel.cell (p := ⟨bx, 1, none⟩) (World.block_lt_of_cell? _ _ S1.out)).trans S1.out); obtain ⟨a8, c8, rfl, -, -, hI8, -⟩ := hR8.slice; have HI8 := Lib.hid hI8; clear hR8 hI8)
            | (go_at_call 18; with_reducible refine (same_calls w8 a8 a6 c8 c6 K6 (Nat.le_trans hl6 (by omega)) HI8.out (HSm.out _ _ HR8.out)).mono ?_; rintro en9 w9 ⟨rfl, hb9⟩; have HB9 := Lib.hid hb9; have S3 : Hid (w9.cell? ⟨bx, 1, none⟩ = some (.string s)) := Lib.hid ((hb9.cell (p := ⟨bx, 1, none⟩) (World.block_lt_of_cell? _ _ S2.out)).trans S2.out); clear hb9))
        all_goals (
          have HR9 := Lib.hid ((HRd.out.bel HR8.out.bel).bel HB9.out)
          clear HRd HR6 HLd HHd HHe HAd HSm HR1
          go_wp2_with fail
          go_roundg (gk - 1)
          case measure => omega
          case rel => exact ⟨i + 1, _, _, _, by go_num, by omega, by omega, rfl, by omega, HR9⟩)
      case false =>
       cases hk2 : (k == (2 : Int))
       case true =>
        have HX := Lib.hid (fun wb (hw : Below wr.heap.size wr wb) => HR1.out.clear hw)
        go_wp2_with fail
        refine (HX.out _ (bbox _)).mono ?_; rintro en w6 ⟨rfl, h6, hst⟩
        have hc6 : w6.cell? ⟨wr.heap.size, 1, none⟩ = some (.string s) := hst.cell (Nat.le_refl _) (by rw [World.cell?_alloc_new]; rfl)
        have h6 := h6.nolist
        clear hst HX c0 c1
        generalize hbx : wr.heap.size = bx at *
        have HBX := Lib.hid hbx
        clear hbx
        obtain ⟨K6, hK6⟩ : ∃ K6 : List ByteArray, K6 = [] := ⟨_, rfl⟩
        obtain ⟨a6, ha6⟩ : ∃ a6 : Option Addr, a6 = none := ⟨_, rfl⟩
        obtain ⟨c6, hc6e⟩ : ∃ c6 : Nat, c6 = 0 := ⟨_, rfl⟩
        have HL6 : Hid (K6.length ≤ i + 1) := Lib.hid (by rw [hK6]; exact Nat.zero_le _)
        have HV : Hid (Value.slice none 0 0 = Value.slice a6 K6.length c6) := Lib.hid (by rw [hK6, ha6, hc6e]; rfl)
        rw [← hK6, ← ha6] at h6
        clear hK6 ha6 hc6e
        go_wp2_with fail
        rw [HV.out]
        have HM6 := Lib.hid hc6
        have HO1 := Lib.hid (h6.oldest but (oldK but K6) (Lib.hid rfl))
        have HO2 := Lib.hid (refOldest_calls w6 a6 c6 K6 (by have := HL6.out; omega) h6.list but (oldK but K6) (Lib.hid rfl))
        have HR6 := Lib.hid h6
        clear h6 hc6
        generalize oldK but K6 = u6 at *
        go_wp2_with fail
        refine HO1.out.mono ?_; rintro en w7 ⟨rfl, rfl⟩
        go_wp2_with fail
        refine HO2.out.mono ?_; rintro en w7 ⟨rfl, rfl⟩
        clear HO1 HO2
        generalize u6.getD ⟨#[]⟩ = o6 at *
        generalize u6.isSome = p6 at *
        go_wp2_with fail
        have HRd : Hid (RC w2 T w6.drew K6 a6 K6) := Lib.hid (HR6.out.bel (Below.refl _ _).drew)
        have S1 : Hid (w6.drew.cell? ⟨bx, 1, none⟩ = some (.string s)) := HM6
        have HLd := Lib.hid HRd.out.len
        have HHd := Lib.hid (HRd.out.has s HS.out (inK s K6) (Lib.hid rfl))
        have HHe := Lib.hid (refHas_calls w6.drew a6 c6 K6 (by have := HL6.out; omega) HRd.out.list s (inK s K6) (Lib.hid rfl))
        have HAd := Lib.hid (HRd.out.all (by have := HL6.out; omega))
        generalize inK s K6 = b6 at *
        have HSm := Lib.hid (fun w' v (hR : RowT w6.drew w' v K6) => HRd.out.list.below hR.bel)
        have hl6 := HL6.out
        clear HM6 hk0 hk2
        go_region_held3 (fun w' : World => w'.cell? ⟨bx, 1, none⟩ = some (.string s))
          (first | exact S1.out | exact S2.out | exact S3.out)
          (first
            | (go_at_call 15; with_reducible refine HLd.out.mono ?_; rintro en8 w8 ⟨rfl, rfl⟩)
            | (go_at_call 16; with_reducible refine HHd.out.mono ?_; rintro en8 w8 ⟨rfl, rfl⟩)
            | (go_at_call 17; with_reducible refine HHe.out.mono ?_; rintro en8 w8 ⟨rfl, rfl⟩)
            | (go_at_call 19; with_reducible refine HAd.out.mono ?_; rintro en8 w8 ⟨v8, rfl, hR8⟩; have HR8 := Lib.hid hR8; have S2 : Hid (w8.cell? ⟨bx, 1, none⟩ = some (.string s)) := Lib.hid ((hR8.bel.cell (p := ⟨bx, 1, none⟩) (World.block_lt_of_cell? _ _ S1.out)).trans S1.out); obtain ⟨a8, c8, rfl, -, -, hI8, -⟩ := hR8.slice; have HI8 := Lib.hid hI8; clear hR8 hI8)
            | (go_at_call 18; with_reducible refine (same_calls w8 a8 a6 c8 c6 K6 (Nat.le_trans hl6 (by omega)) HI8.out (HSm.out _ _ HR8.out)).mono ?_; rintro en9 w9 ⟨rfl, hb9⟩; have HB9 := Lib.hid hb9; have S3 : Hid (w9.cell? ⟨bx, 1, none⟩ = some (.string s)) := Lib.hid ((hb9.cell (p := ⟨bx, 1, none⟩) (World.block_lt_of_cell? _ _ S2.out)).trans S2.out); clear hb9))
        all_goals (
          have HR9 := Lib.hid ((HRd.out.bel HR8.out.bel).bel HB9.out)
          clear HRd HR6 HLd HHd HHe HAd HSm HR1
          go_wp2_with fail
          go_roundg (gk - 1)
          case measure => omega
          case rel => exact ⟨i + 1, _, _, _, by go_num, by omega, by omega, rfl, by omega, HR9⟩)
       case false =>
        have HX := Lib.hid (fun wb (hw : Below wr.heap.size wr wb) => HR1.out.drop hw s HS.out)
        go_wp2_with fail
        refine (HX.out _ (bbox _)).mono ?_; rintro en w5 ⟨rfl, h5, hst⟩
        have hc5 : w5.cell? ⟨wr.heap.size, 1, none⟩ = some (.string s) := hst.cell (Nat.le_refl _) (by rw [World.cell?_alloc_new]; rfl)
        have HY := Lib.hid (refDrop_calls w5 a5 c5 K (by omega) h5.list s)
        have H5 := Lib.hid h5
        clear h5 hst HX c0 c1
        generalize hbx : wr.heap.size = bx at *
        have HBX := Lib.hid hbx
        clear hbx
        generalize inK s K = b5 at *
        go_wp2_with fail
        refine HY.out.mono ?_; rintro en w6 ⟨v6, rfl, hR6⟩
        obtain ⟨a6, c6, rfl, -, -, hI6, hO6⟩ := hR6.slice
        have h6 := H5.out.swap hR6.bel hI6 hO6
        have hc6 : w6.cell? ⟨bx, 1, none⟩ = some (.string s) := (hR6.bel.cell (p := ⟨bx, 1, none⟩) (World.block_lt_of_cell? _ _ hc5)).trans hc5
        have HL6 : Hid ((dropK s K).length ≤ i + 1) := Lib.hid (by have := dropK_le s K; omega)
        clear hR6 hI6 hO6 hc5 H5 HY
        generalize dropK s K = K6 at *
        have HM6 := Lib.hid hc6
        have HO1 := Lib.hid (h6.oldest but (oldK but K6) (Lib.hid rfl))
        have HO2 := Lib.hid (refOldest_calls w6 a6 c6 K6 (by have := HL6.out; omega) h6.list but (oldK but K6) (Lib.hid rfl))
        have HR6 := Lib.hid h6
        clear h6 hc6
        generalize oldK but K6 = u6 at *
        go_wp2_with fail
        refine HO1.out.mono ?_; rintro en w7 ⟨rfl, rfl⟩
        go_wp2_with fail
        refine HO2.out.mono ?_; rintro en w7 ⟨rfl, rfl⟩
        clear HO1 HO2
        generalize u6.getD ⟨#[]⟩ = o6 at *
        generalize u6.isSome = p6 at *
        go_wp2_with fail
        have HRd : Hid (RC w2 T w6.drew K6 a6 K6) := Lib.hid (HR6.out.bel (Below.refl _ _).drew)
        have S1 : Hid (w6.drew.cell? ⟨bx, 1, none⟩ = some (.string s)) := HM6
        have HLd := Lib.hid HRd.out.len
        have HHd := Lib.hid (HRd.out.has s HS.out (inK s K6) (Lib.hid rfl))
        have HHe := Lib.hid (refHas_calls w6.drew a6 c6 K6 (by have := HL6.out; omega) HRd.out.list s (inK s K6) (Lib.hid rfl))
        have HAd := Lib.hid (HRd.out.all (by have := HL6.out; omega))
        generalize inK s K6 = b6 at *
        have HSm := Lib.hid (fun w' v (hR : RowT w6.drew w' v K6) => HRd.out.list.below hR.bel)
        have hl6 := HL6.out
        clear HM6 hk0 hk2
        go_region_held3 (fun w' : World => w'.cell? ⟨bx, 1, none⟩ = some (.string s))
          (first | exact S1.out | exact S2.out | exact S3.out)
          (first
            | (go_at_call 15; with_reducible refine HLd.out.mono ?_; rintro en8 w8 ⟨rfl, rfl⟩)
            | (go_at_call 16; with_reducible refine HHd.out.mono ?_; rintro en8 w8 ⟨rfl, rfl⟩)
            | (go_at_call 17; with_reducible refine HHe.out.mono ?_; rintro en8 w8 ⟨rfl, rfl⟩)
            | (go_at_call 19; with_reducible refine HAd.out.mono ?_; rintro en8 w8 ⟨v8, rfl, hR8⟩; have HR8 := Lib.hid hR8; have S2 : Hid (w8.cell? ⟨bx, 1, none⟩ = some (.string s)) := Lib.hid ((hR8.bel.cell (p := ⟨bx, 1, none⟩) (World.block_lt_of_cell? _ _ S1.out)).trans S1.out); obtain ⟨a8, c8, rfl, -, -, hI8, -⟩ := hR8.slice; have HI8 := Lib.hid hI8; clear hR8 hI8)
            | (go_at_call 18; with_reducible refine (same_calls w8 a8 a6 c8 c6 K6 (Nat.le_trans hl6 (by omega)) HI8.out (HSm.out _ _ HR8.out)).mono ?_; rintro en9 w9 ⟨rfl, hb9⟩; have HB9 := Lib.hid hb9; have S3 : Hid (w9.cell? ⟨bx, 1, none⟩ = some (.string s)) := Lib.hid ((hb9.cell (p := ⟨bx, 1, none⟩) (World.block_lt_of_cell? _ _ S2.out)).trans S2.out); clear hb9))
        all_goals (
          have HR9 := Lib.hid ((HRd.out.bel HR8.out.bel).bel HB9.out)
          clear HRd HR6 HLd HHd HHe HAd HSm HR1
          go_wp2_with fail
          go_roundg (gk - 1)
          case measure => omega
          case rel => exact ⟨i + 1, _, _, _, by go_num, by omega, by omega, rfl, by omega, HR9⟩)
end Go.Proofs.Ytljobmohmbeafaa.Ca
