/- TableClears. No condition. -/
import Derived.Test.YtpbblijnfigapaaTar
namespace Go.Proofs.Ytpbblijnfigapaa.Ta
open Go.ChangeShapes Go.WideShapes Go.ChangeAt Go.RowKit
theorem heap_cell {w w' : World} {b i : Nat} (h : w'.heap[b]? = w.heap[b]?) : w'.cell? ⟨b, i, none⟩ = w.cell? ⟨b, i, none⟩ := by simp only [World.cell?, h]
set_option maxHeartbeats 4000000 in
set_option maxRecDepth 100000 in
theorem tableClears (xa : Option Addr) (xc : Nat) (l : List Ac) (ya : Option Addr) (yc : Nat) (m : List Ac) (w : World) (hI : InA w xa l) (hJ : InA w ya m) :
    Calls Try.prog 6 #[.slice xa l.length xc, .slice ya m.length yc] w fun e w' => e = .returned (.bool true) ∧ Below w.heap.size w w' := by
  have HI := Lib.hid hI
  have HJ := Lib.hid hJ
  clear hI hJ
  have HA := Lib.hid (tableAlive w)
  go_enter Try.func6, Try.ntmps6
  go_wp2_with fail
  refine HA.out.mono ?_; rintro en w1 ⟨rfl, hb1⟩
  have HB1 := Lib.hid hb1
  have HG := Lib.hid (great_calls w1 xa xc l (HI.out.below (Nat.le_refl _) hb1))
  clear hb1 HA
  go_wp2_with fail
  refine HG.out.mono ?_; rintro en w2 ⟨hg, hb2⟩
  have HB2 := Lib.hid (bstep HB1.out hb2)
  clear hb2 HG HB1
  rcases hg with rfl | ⟨rfl, hok⟩
  · go_wp2_with fail
    go_ret
    exact ⟨rfl, HB2.out⟩
  have HOK := Lib.hid hok
  clear hok
  have HG := Lib.hid (great_calls w2 ya yc m (HJ.out.below (Nat.le_refl _) HB2.out))
  go_wp2_with fail
  refine HG.out.mono ?_; rintro en w3 ⟨hg, hb3⟩
  have HB3 := Lib.hid (bstep HB2.out hb3)
  clear hb3 HG HB2
  rcases hg with rfl | ⟨rfl, hok⟩
  · go_wp2_with fail
    go_ret
    exact ⟨rfl, HB3.out⟩
  have HOM := Lib.hid hok
  clear hok
  have HI3 := Lib.hid (HI.out.below (Nat.le_refl _) HB3.out)
  have HJ3 := Lib.hid (HJ.out.below (Nat.le_refl _) HB3.out)
  clear HI HJ
  have HL := Lib.hid HOK.out.1
  have HM := Lib.hid HOM.out.1
  have HN := Lib.hid (fun W => newT_calls W)
  go_wp2_with fail
  refine (HN.out _).mono ?_; rintro en w4 ⟨rfl, h4, b4⟩
  have H4 := Lib.hid h4
  have B4 := Lib.hid b4
  clear h4 b4
  go_wp2_with fail
  refine (HN.out _).mono ?_; rintro en w5 ⟨rfl, h5, b5⟩
  have HT := Lib.hid (TT.new H4.out B4.out h5 b5)
  clear h5 b5 HN H4 B4
  generalize w3.heap.size + 2 = T at *
  generalize w4.heap.size + 2 = U at *
  go_wp2_with fail
  go_loopg [8, 27] (l.length + 1) (fun g _ vi wr => ∃ (i : Nat) (s : St), vi = .int .i64 i ∧ i ≤ l.length ∧ l.length - i ≤ g ∧ Hid (RI i s) ∧ Hid (TT w3.heap.size w3 (fun _ => False) T U wr s newS))
  case atStart => exact ⟨0, newS, rfl, by omega, by omega, Lib.hid RI.new, HT⟩
  case round =>
    obtain ⟨i, s, rfl, hi, hg, HR, HT1⟩ := hrel
    clear HT
    by_cases hil : i < l.length
    case pos =>
      have hic : (i : Int) < (l.length : Int) := by omega
      obtain ⟨b, o, rfl, hlt, hc⟩ := HI3.out (by omega)
      obtain ⟨c0, c1, c2⟩ := hc i hil
      have e : ∀ j, wr.cell? ⟨b, j, none⟩ = w3.cell? ⟨b, j, none⟩ := fun j => HT1.out.below.cell (p := ⟨b, j, none⟩) hlt
      rw [← e] at c0 c1 c2
      have HSZ := Lib.hid (HOK.out.2 i hil)
      have hl150 := HL.out
      clear hc e hlt
      generalize l[i] = q at *
      have HP := Lib.hid (fun O => (HT1.out.bel (bbox O)).put HR.out.ok (by have := HR.out.len; omega) q.s (by have := HSZ.out; omega) q.n)
      have HRP := Lib.hid (HR.out.step.put (step_ok HR.out.ok) (by omega) q.s (by have := HSZ.out; omega) q.n)
      go_wp2_with fail
      refine (HP.out _).mono ?_; rintro en w6 ⟨r6, rfl, -, hT6, -⟩
      have HT6 := Lib.hid hT6
      clear hT6 HP HT1 c0 c1 c2
      go_wp2_with fail
      go_roundg (gk - 1)
      case measure => omega
      case rel => exact ⟨i + 1, _, by go_num, by omega, by omega, HRP, HT6⟩
    case neg =>
      have hic : ¬ ((i : Int) < (l.length : Int)) := by omega
      have HC := Lib.hid HT1.out.clear
      clear HR
      go_wp2_with fail
      refine HC.out.mono ?_; rintro en w6 ⟨rfl, hT6⟩
      have HT6 := Lib.hid hT6
      clear hT6 HC HT1
      have HLn := Lib.hid (HT6.out.len newS_ok.toOk)
      rw [show lenS newS = 0 from rfl] at HLn
      go_wp2_with fail
      refine HLn.out.mono ?_; rintro en w7 ⟨rfl, hb7⟩
      have HT7 := Lib.hid (HT6.out.bel hb7)
      clear hb7 HLn HT6
      have HKy := Lib.hid (HT7.out.keys newS_ok.toOk)
      rw [show (keysS newS).length = 0 from by have := keysS_len newS_ok.toOk; have e : lenS newS = 0 := rfl; omega] at HKy
      go_wp2_with fail
      refine HKy.out.mono ?_; rintro en w8 ⟨g8, k8, rfl, -, hb8⟩
      have HT8 := Lib.hid (HT7.out.bel hb8)
      clear hb8 HKy HT7
      go_wp2_with fail
      go_loopg [10, 51] (m.length + 1) (fun g _ vi wr => ∃ (j : Nat) (s : St), vi = .int .i64 j ∧ j ≤ m.length ∧ m.length - j ≤ g ∧ Hid (RI j s) ∧ Hid (TT w3.heap.size w3 (fun _ => False) T U wr s s))
      case atStart => exact ⟨0, newS, rfl, by omega, by omega, Lib.hid RI.new, HT8⟩
      case round =>
        obtain ⟨j, s, rfl, hj, hg, HR, HT1⟩ := hrel
        by_cases hjl : j < m.length
        case pos =>
          have hjc : (j : Int) < (m.length : Int) := by omega
          obtain ⟨b, o, rfl, hlt, hc⟩ := HJ3.out (by omega)
          obtain ⟨c0, c1, c2⟩ := hc j hjl
          have e : ∀ j, wr.cell? ⟨b, j, none⟩ = w3.cell? ⟨b, j, none⟩ := fun j => HT1.out.below.cell (p := ⟨b, j, none⟩) hlt
          rw [← e] at c0 c1 c2
          have HSZ := Lib.hid (HOM.out.2 j hjl)
          have hm150 := HM.out
          clear hc e hlt
          generalize m[j] = q at *
          have HTX := Lib.hid (fun O => HT1.out.box O)
          have HP := Lib.hid (fun (W : World) (u : St) (X : Nat → Prop) (h : TT w3.heap.size w3 X T U W s u) => h.put HR.out.ok (by have := HR.out.len; omega) q.s (by have := HSZ.out; omega) q.n)
          have HQ := Lib.hid (fun (W : World) (u : St) (X : Nat → Prop) (h : TT w3.heap.size w3 X T U W u s) => h.swap.put HR.out.ok (by have := HR.out.len; omega) q.s (by have := HSZ.out; omega) q.n)
          have HRP := Lib.hid (HR.out.step.put (step_ok HR.out.ok) (by omega) q.s (by have := HSZ.out; omega) q.n)
          have HBo : Hid (∀ O : Obj, O = .cells #[.int .i64 q.k, .string q.s, .int .i64 q.n] 29 → (wr.alloc O).cell? ⟨wr.heap.size, 1, none⟩ = some (.string q.s) ∧ (wr.alloc O).cell? ⟨wr.heap.size, 2, none⟩ = some (.int .i64 q.n)) := Lib.hid (fun O hO => by
            subst hO
            exact ⟨by rw [World.cell?_alloc_new]; rfl, by rw [World.cell?_alloc_new]; rfl⟩)
          have E1 := Lib.hid enters_put
          go_wp2_with fail
          have HT2 := Lib.hid (HTX.out (.cells #[.int .i64 q.k, .string q.s, .int .i64 q.n] 29))
          have S0 := HBo.out _ rfl
          clear HTX HBo c0 c1 c2 HT1
          generalize wr.alloc (.cells #[.int .i64 q.k, .string q.s, .int .i64 q.n] 29) = W0 at *
          generalize wr.heap.size = bx at *
          have HTd : Hid (TT w3.heap.size w3 (fun x => x = bx) T U W0.drew s s) := Lib.hid (HT2.out.bel ((Below.refl _ _).drew))
          have S1 : Hid (W0.drew.cell? ⟨bx, 1, none⟩ = some (.string q.s) ∧ W0.drew.cell? ⟨bx, 2, none⟩ = some (.int .i64 q.n)) := Lib.hid S0
          clear S0
          go_region_held3 (fun w' : World => w'.cell? ⟨bx, 1, none⟩ = some (.string q.s) ∧ w'.cell? ⟨bx, 2, none⟩ = some (.int .i64 q.n))
            (first | exact S4.out | exact S3.out | exact S1.out)
            (first
              | (go_at_call 11; with_reducible refine (HP.out _ _ _ HTd.out).mono ?_; rintro en8 w8 ⟨v3, rfl, hv3, hT3, hs3⟩; have HT3 := Lib.hid hT3; have S3 : Hid (w8.cell? ⟨bx, 1, none⟩ = some (.string q.s) ∧ w8.cell? ⟨bx, 2, none⟩ = some (.int .i64 q.n)) := Lib.hid ⟨(heap_cell (hs3 _ rfl)).trans S1.out.1, (heap_cell (hs3 _ rfl)).trans S1.out.2⟩; clear hT3 hs3)
              | (go_at_call 11; with_reducible refine (HQ.out _ _ _ HT3.out).mono ?_; rintro en9 w9 ⟨v4, rfl, hv4, hT4, hs4⟩; have HT4 := Lib.hid hT4.swap.free; have S4 : Hid (w9.cell? ⟨bx, 1, none⟩ = some (.string q.s) ∧ w9.cell? ⟨bx, 2, none⟩ = some (.int .i64 q.n)) := Lib.hid ⟨(heap_cell (hs4 _ rfl)).trans S3.out.1, (heap_cell (hs4 _ rfl)).trans S3.out.2⟩; clear hT4 hs4))
          subst hv3 hv4
          go_wp2_with fail
          go_roundg (gk - 1)
          case measure => omega
          case rel => exact ⟨j + 1, _, by go_num, by omega, by omega, HRP, HT4⟩
        case neg =>
          have hjc : ¬ ((j : Int) < (m.length : Int)) := by omega
          have HRm := Lib.hid HT1.out.room
          go_wp2_with fail
          refine HRm.out.mono ?_; rintro en w9 ⟨rfl, hb9⟩
          have HT9 := Lib.hid (HT1.out.bel hb9)
          clear HRm HT1 hb9
          have HRm := Lib.hid HT9.out.swap.room
          go_wp2_with fail
          refine HRm.out.mono ?_; rintro en w10 ⟨rfl, hb10⟩
          have HT10 := Lib.hid (HT9.out.bel hb10)
          clear HRm HT9 hb10
          have HKy := Lib.hid (fun (W : World) (u : St) (h : TT w3.heap.size w3 (fun _ => False) T U W s u) => h.keys HR.out.ok.toOk)
          have HKz := Lib.hid (fun (W : World) (u : St) (h : TT w3.heap.size w3 (fun _ => False) T U W u s) => h.swap.keys HR.out.ok.toOk)
          have HKm : Hid ((keysS s).length ≤ 100000) := Lib.hid (by
            have h1 := keysS_len HR.out.ok.toOk
            have := HR.out.ok.a.rng; have := HR.out.ok.b.rng; have := HR.out.ok.b1; have := HR.out.ok.b2
            unfold lenS at h1; omega)
          generalize keysS s = K at *
          go_wp2_with fail
          refine (HKy.out _ _ HT10.out).mono ?_; rintro en w11 ⟨g1, k1, rfl, hI1, hb11⟩
          have HI1 := Lib.hid hI1
          have HT11 := Lib.hid (HT10.out.bel hb11)
          clear hI1 hb11 HT10 HKy
          go_wp2_with fail
          refine (HKz.out _ _ HT11.out).mono ?_; rintro en w12 ⟨g2, k2, rfl, hI2, hb12⟩
          have HSa := Lib.hid (same_calls w12 g1 g2 k1 k2 K HKm.out (HI1.out.below hb12) hI2)
          have HT12 := Lib.hid (HT11.out.bel hb12)
          clear hI2 hb12 HT11 HKz HI1
          go_wp2_with fail
          refine HSa.out.mono ?_; rintro en w13 ⟨rfl, hb13⟩
          have HBe := Lib.hid (HB3.out.trans ((HT12.out.bel hb13).below.mono HB3.out.size))
          clear hb13 HSa HT12
          go_wp2_with fail
          go_ret
          exact ⟨rfl, HBe.out⟩
end Go.Proofs.Ytpbblijnfigapaa.Ta
