/- TableKeeps. No condition. -/
import Derived.Test.YtpbblijnfigapaaTap
import Derived.Test.YtpbblijnfigapaaTak
namespace Go.Proofs.Ytpbblijnfigapaa.Ta
open Go.ChangeShapes Go.WideShapes Go.ChangeAt Go.RowKit Go.Maps Go.WideMaps
set_option maxHeartbeats 4000000 in
set_option maxRecDepth 100000 in
theorem tableKeeps (xa : Option Addr) (xc : Nat) (l : List Ac) (w : World) (hI : InA w xa l) :
    Calls Try.prog 3 #[.slice xa l.length xc] w fun e w' => e = .returned (.bool true) ∧ Below w.heap.size w w' := by
  have HI := Lib.hid hI
  clear hI
  have HA := Lib.hid (tableAlive w)
  go_enter Try.func3, Try.ntmps3
  go_wp2_with fail
  refine HA.out.mono ?_; rintro en w1 ⟨rfl, hb1⟩
  have HB1 := Lib.hid hb1
  have HG := Lib.hid (great_calls w1 xa xc l (HI.out.below (Nat.le_refl _) hb1))
  clear hb1 HA
  go_wp2_with fail
  refine HG.out.mono ?_; rintro en w2 ⟨hg, hb2⟩
  have HB2 := Lib.hid (bstep HB1.out hb2)
  have HI2 := Lib.hid (HI.out.below (Nat.le_refl _) HB2.out)
  clear hb2 HG HB1 HI
  rcases hg with rfl | ⟨rfl, hok⟩
  · go_wp2_with fail
    go_ret
    exact ⟨rfl, HB2.out⟩
  have HOK := Lib.hid hok
  have HL := Lib.hid hok.1
  clear hok
  have HN := Lib.hid (newT_calls w2)
  have hmm := @run_makeMap Try.prog
  go_wp2_with fail
  refine HN.out.mono ?_; rintro en w3 ⟨rfl, hT, hb3⟩
  have HT := Lib.hid (TM.new hT hb3)
  clear hT hb3 HN
  generalize w2.heap.size + 2 = T at *
  go_wp2_with fail
  clear hmm
  generalize w3.alloc (.map #[] 0) = w4 at *
  generalize w3.heap.size = M at *
  go_loopg [5, 6, 7, 8, 9, 10, 30] (l.length + 1) (fun g _ _ _ _ _ _ vi wr => ∃ (i : Nat) (s : St) (D : DataW Unit), vi = .int .i64 i ∧ i ≤ l.length ∧ l.length - i ≤ g ∧ Hid (RI i s) ∧ Hid (KI s D) ∧ Hid (TM w2.heap.size w2 T M wr s D i))
  case atStart => exact ⟨0, newS, .map [], rfl, by omega, by omega, Lib.hid RI.new, Lib.hid KI.new, HT⟩
  case round =>
    obtain ⟨i, s, D, rfl, hi, hg, HR, HK, HT1⟩ := hrel
    clear HT
    by_cases hil : i < l.length
    case pos =>
      have hic : (i : Int) < (l.length : Int) := by omega
      obtain ⟨b, o, rfl, hlt, hc⟩ := HI2.out (by omega)
      obtain ⟨c0, c1, c2⟩ := hc i hil
      have e : ∀ j, wr.cell? ⟨b, j, none⟩ = w2.cell? ⟨b, j, none⟩ := fun j => HT1.out.below.cell (p := ⟨b, j, none⟩) hlt
      rw [← e] at c0 c1 c2
      have HSZ := Lib.hid (HOK.out.2 i hil)
      have hl150 := HL.out
      clear hc e hlt
      generalize l[i] = q at *
      have HP := Lib.hid (fun wb (hw : Below wr.heap.size wr wb) => HT1.out.put2 hw HR.out.ok (by have := HR.out.len; omega) q.s (by have := HSZ.out; omega) i)
      have HD := Lib.hid (fun wb (hw : Below wr.heap.size wr wb) => HT1.out.drop2 hw HR.out.ok HK.out.kp q.s (by have := HSZ.out; omega))
      have HKP := Lib.hid ((HK.out.step HR.out.ok).put (step_ok HR.out.ok) (by rw [step_len HR.out.ok]; have := HR.out.len; omega) q.s (by have := HSZ.out; omega) i)
      have HKD := Lib.hid ((HK.out.step HR.out.ok).drop (step_ok HR.out.ok) q.s)
      have HRP := Lib.hid (HR.out.step.put (step_ok HR.out.ok) (by omega) q.s (by have := HSZ.out; omega) i)
      have HRD := Lib.hid ((HR.out.step.drop (step_ok HR.out.ok) q.s).mono (Nat.le_succ i))
      have HS := Lib.hid (by have := HSZ.out; omega : q.s.size ≤ 1000)
      cases hk : (q.k == (1 : Int))
      case false =>
        go_wp2_with fail
        refine (HP.out _ (bbox _)).mono ?_; rintro en w5 ⟨rfl, hT5, hst⟩
        have HT5 := Lib.hid hT5
        have c5 : w5.cell? ⟨wr.heap.size, 1, none⟩ = some (.string q.s) := hst.cell (Nat.le_refl _) (by rw [World.cell?_alloc_new]; rfl)
        clear hT5 hst HP HD HKD HRD HT1 c0 c1 c2
        generalize wr.heap.size = bx at *
        generalize putS (step s) q.s i = s2 at *
        generalize q.s = kk at *
        go_wp2_with (at_mapUpdate; refine now_put HT5.out (by omega) rfl _ _ _ rfl rfl kk rfl HS.out i rfl ⟨by omega, by omega⟩ ?_)
        intro w6 hT6
        have HT6 := Lib.hid hT6
        clear hT6 HT5 c5
        generalize D.put (klit kk) (.lit (.int .i64 (i : Int))) = D2 at *
        go_wp2_with fail
        refine (HT6.out.len2 HRP.out.ok.toOk HKP.out).mono ?_; rintro en w7 ⟨rfl, hT7⟩
        have HT7 := Lib.hid hT7
        clear hT7 HT6
        go_wp2_with (at_len; refine now_len HT7.out rfl _ rfl rfl ?_)
        go_roundg (gk - 1)
        case measure => omega
        case rel => exact ⟨i + 1, _, _, by go_num, by omega, by omega, HRP, HKP, HT7⟩
      case true =>
        go_wp2_with fail
        refine (HD.out _ (bbox _)).mono ?_; rintro en w5 ⟨rfl, hT5, hst⟩
        have HT5 := Lib.hid hT5
        have c5 : w5.cell? ⟨wr.heap.size, 1, none⟩ = some (.string q.s) := hst.cell (Nat.le_refl _) (by rw [World.cell?_alloc_new]; rfl)
        clear hT5 hst HP HD HKP HRP HT1 c0 c1 c2
        generalize wr.heap.size = bx at *
        generalize dropS (step s) q.s = s2 at *
        generalize q.s = kk at *
        go_wp2_with (first | (at_lookup; refine now_look HT5.out HK.out.hs HK.out.av rfl _ _ rfl rfl kk rfl HS.out ?_) | (at_delete; refine now_del HT5.out rfl _ _ rfl rfl kk rfl HS.out ?_))
        intro w6 hT6
        have HT6 := Lib.hid hT6
        clear hT6 HT5 c5
        generalize D.del (klit kk) = D2 at *
        go_wp2_with fail
        refine (HT6.out.len2 HRD.out.ok.toOk HKD.out).mono ?_; rintro en w7 ⟨rfl, hT7⟩
        have HT7 := Lib.hid (show TM w2.heap.size w2 T M w7 s2 D2 (i + 1) from by
          obtain ⟨x1, x2, x3⟩ := hT7
          exact ⟨x1, x2.mono (Nat.le_succ i), x3⟩)
        clear hT7 HT6
        go_wp2_with (at_len; refine now_len HT7.out rfl _ rfl rfl ?_)
        go_roundg (gk - 1)
        case measure => omega
        case rel => exact ⟨i + 1, _, _, by go_num, by omega, by omega, HRD, HKD, HT7⟩
    case neg =>
      have hic : ¬ ((i : Int) < (l.length : Int)) := by omega
      have HO := Lib.hid HR.out.ok
      clear HR
      go_wp2_with fail
      go_loopg [12, 13, 14, 15, 16, 80] (l.length + 1) (fun g _ _ _ _ _ vi wr => ∃ (j : Nat) (s : St), vi = .int .i64 j ∧ j ≤ l.length ∧ l.length - j ≤ g ∧ Hid (OkS 0 s) ∧ Hid (KI s D) ∧ Hid (TM w2.heap.size w2 T M wr s D i))
      case atStart => exact ⟨0, s, rfl, by omega, by omega, HO, HK, HT1⟩
      case round =>
        obtain ⟨j, s, rfl, hj, hg, HO, HK, HT1⟩ := hrel
        by_cases hjl : j < l.length
        case pos =>
          have hjc : (j : Int) < (l.length : Int) := by omega
          obtain ⟨b, o, rfl, hlt, hc⟩ := HI2.out (by omega)
          obtain ⟨c0, c1, c2⟩ := hc j hjl
          have e : ∀ j, wr.cell? ⟨b, j, none⟩ = w2.cell? ⟨b, j, none⟩ := fun j => HT1.out.below.cell (p := ⟨b, j, none⟩) hlt
          rw [← e] at c0 c1 c2
          have HSZ := Lib.hid (HOK.out.2 j hjl)
          clear hc e hlt
          generalize l[j] = q at *
          have hl150 := HL.out
          have HGt := Lib.hid (fun wb (hw : Below wr.heap.size wr wb) => HT1.out.get2 hw HO.out HK.out.kp q.s (by have := HSZ.out; omega))
          have HKG := Lib.hid (HK.out.step HO.out)
          have HOG := Lib.hid (step_ok HO.out).to0
          have HS := Lib.hid (by have := HSZ.out; omega : q.s.size ≤ 1000)
          go_wp2_with fail
          refine (HGt.out _ (bbox _)).mono ?_; rintro en w5 ⟨rfl, hT5, hst⟩
          have HT5 := Lib.hid hT5
          have c5 : w5.cell? ⟨wr.heap.size, 1, none⟩ = some (.string q.s) := hst.cell (Nat.le_refl _) (by rw [World.cell?_alloc_new]; rfl)
          clear hT5 hst HGt HT1 c0 c1 c2
          generalize wr.heap.size = bx at *
          generalize step s = s2 at *
          generalize q.s = kk at *
          go_wp2_with (at_lookup; refine now_look HT5.out HK.out.hs HK.out.av rfl _ _ rfl rfl kk rfl HS.out ?_)
          go_roundg (gk - 1)
          case measure => omega
          case rel => exact ⟨j + 1, _, by go_num, by omega, by omega, HOG, HKG, HT5⟩
        case neg =>
          have hjc : ¬ ((j : Int) < (l.length : Int)) := by omega
          obtain ⟨K, hKe⟩ : ∃ K, keysS s = K := ⟨_, rfl⟩
          have HKy := Lib.hid (HT1.out.keys HO.out.toOk)
          rw [hKe] at HKy
          have HKL : Hid ((K.length : Int) = (Maps.size D : Int)) := Lib.hid (by rw [← hKe, keysS_len HO.out.toOk, HK.out.sz])
          have HAt : Hid (∀ (i : Nat) (hi : i < K.length), ∃ k : ByteArray, (⟨K[i].toArray⟩ : ByteArray) = k ∧ k.toList = K[i] ∧ (look s k).isSome = true ∧ k.size ≤ 1000) := Lib.hid (by subst hKe; exact fun i hi => keysS_at HK.out.kp HO.out.toOk hi)
          have HLs : Hid (∀ (i : Nat) (hi : i + 1 < K.length), Op.bytesLess K[i] K[i + 1] = true) := Lib.hid (by subst hKe; exact fun i hi => keysS_less HK.out.kp hi)
          have HKm : Hid (K.length ≤ 100000) := Lib.hid (by
            have h1 := keysS_len HO.out.toOk
            have := HO.out.a.rng; have := HO.out.b.rng; have := HO.out.b1; have := HO.out.b2
            rw [hKe] at h1
            unfold lenS at h1; omega)
          clear hKe
          go_wp2_with fail
          refine HKy.out.mono ?_; rintro en w5 ⟨g, kc, rfl, hI5, hT5⟩
          have HT5 := Lib.hid hT5
          have HI5 := Lib.hid hI5
          clear hT5 hI5 HKy HT1
          go_wp2_with fail
          go_loopg [18, 19, 20, 21, 111] (K.length + 1) (fun g0 _ _ _ _ vi wr => ∃ m : Nat, vi = .int .i64 m ∧ m ≤ K.length ∧ K.length - m ≤ g0 ∧ Hid (TM w2.heap.size w2 T M wr s D i) ∧ Hid (InSt wr g K))
          case atStart => exact ⟨0, rfl, by omega, by omega, HT5, HI5⟩
          case round =>
            obtain ⟨m, rfl, hm, hg, HT6, HI6⟩ := hrel
            by_cases hml : m < K.length
            case neg =>
              have hmc : ¬ ((m : Int) < (K.length : Int)) := by omega
              have hkl := HKL.out
              have HBe := Lib.hid (HB2.out.trans (HT6.out.below.mono HB2.out.size))
              go_wp2_with (at_len; refine now_len HT6.out rfl _ rfl rfl ?_)
              go_ret
              exact ⟨rfl, HBe.out⟩
            case pos =>
              have hmc : (m : Int) < (K.length : Int) := by omega
              have hcell := HI6.out.2 m hml
              obtain ⟨kk, ek, eL, hlk, hks⟩ := HAt.out m hml
              rw [ek] at hcell
              have hkm := HKm.out
              cases m with
              | zero =>
                clear ek eL
                go_wp2_with (at_lookup; refine now_look HT6.out HK.out.hs HK.out.av rfl _ _ rfl rfl kk rfl hks ?_)
                go_roundg (gk - 1)
                case measure => omega
                case rel => exact ⟨1, by go_num, by omega, by omega, HT6, HI6⟩
              | succ p =>
                have hpl : p < K.length := by omega
                have hcell2 := HI6.out.2 p hpl
                obtain ⟨kp, ek2, eL2, -, -⟩ := HAt.out p hpl
                rw [ek2] at hcell2
                have hless := HLs.out p hml
                rw [← eL, ← eL2] at hless
                clear ek eL ek2 eL2
                go_wp2_with (at_lookup; refine now_look HT6.out HK.out.hs HK.out.av rfl _ _ rfl rfl kk rfl hks ?_)
                go_roundg (gk - 1)
                case measure => omega
                case rel => exact ⟨p + 2, by go_num, by omega, by omega, HT6, HI6⟩
end Go.Proofs.Ytpbblijnfigapaa.Ta
