/- StoreTells. Condition: the library's variables hold what start-up lays. -/
import Derived.Test.YtmjlhmohglbecaaGreatDoorSaT
namespace Go.Proofs.YtmjlhmohglbecaaGreatDoor.Sa
set_option linter.unusedVariables false
set_option linter.unusedSimpArgs false
open Go.ChangeShapes Go.WideShapes Go.ChangeAt Go.RowKit
open Sp (Th Hp Stays All Ro roT rowT cellsT exT puT star mapT rngT setG setG_same setG_ne)
set_option maxHeartbeats 32000000 in
set_option maxRecDepth 100000 in
theorem storeTells (w : World) (hc : Ctx w) (bud : Int) (xa : Option Addr) (xc : Nat) (l : List Ac) (hI : InA w xa l) (hB : ∀ i (h : i < l.length), (-9223372036854775808 ≤ l[i].n ∧ l[i].n ≤ 9223372036854775807) ∧ (-9223372036854775808 ≤ l[i].wh ∧ l[i].wh ≤ 9223372036854775807) ∧ l[i].wt ≤ 65535) :
    Calls Tryz.prog 4 #[.int .i64 bud, .slice xa l.length xc] w fun e w' => e = .returned (.bool true) ∧ Below w.heap.size w w' := by
  have HA := Lib.hid (storeAlive w hc)
  have HI := Lib.hid hI
  have HBd := Lib.hid hB
  clear hI hB
  go_enter Tryz.func4, Tryz.ntmps4
  go_wp2_with fail
  refine HA.out.mono ?_; rintro en w1 ⟨rfl, hb1⟩
  have HB1 := Lib.hid hb1
  have HG := Lib.hid (great_calls w1 xa xc _ l rfl (HI.out.below (Nat.le_refl _) hb1))
  clear HA hb1
  go_wp2_with fail
  refine HG.out.mono ?_; rintro en w2 ⟨(rfl | ⟨rfl, hok⟩), hb2⟩
  · have HB2 := Lib.hid (Sp.bstep HB1.out hb2)
    clear hb2 HG
    go_wp2_with fail
    go_ret
    exact ⟨rfl, HB2.out⟩
  have HB2 := Lib.hid (Sp.bstep HB1.out hb2)
  have HOK := Lib.hid hok
  clear hok HG hb2 HB1
  by_cases h40 : 40 < l.length
  · have h40c : (40 : Int) < (l.length : Int) := by omega
    go_wp2_with fail
    go_ret
    exact ⟨rfl, HB2.out⟩
  have h40c : ¬ (40 : Int) < (l.length : Int) := by omega
  have HN := Lib.hid (new_calls (Hp.nil HB2.out) (Below.refl _ _) bud)
  unfold ptr at HN
  have hmm := @run_makeMap Tryz.prog
  go_wp2_with fail
  refine HN.out.mono ?_; rintro en w3 ⟨T, rfl, h3⟩
  have H3 := Lib.hid (h3.mapNew 9 elV)
  clear h3 HN
  go_wp2_with fail
  generalize w3.alloc (.map #[] 0) = w4 at *
  generalize w3.heap.size = M0 at *
  have H4 : Hid (Hp w w4 [mapT 9 elV M0 0 0 (fun _ => none), roT (itemsR (fun _ => none) (newM bud).f), storeT T (newM bud)]) := Lib.hid ((items_none H3.out (newM bud).f).pull 1 rfl)
  have HO0 := Lib.hid (Ok.new bud)
  clear H3
  go_loopg [6, 7, 9, 10, 11, 13, 14, 15, 16, 17, 19, 20, 21, 22, 23, 24, 25, 26, 41] (l.length + 1) (fun gg vn vm _ _ _ _ _ _ _ _ _ _ _ _ _ _ _ _ vi wr => ∃ (i : Nat) (m : Md) (now : Int) (M n c : Nat) (g : ByteArray → Option Iv), vi = .int .i64 i ∧ i ≤ l.length ∧ l.length - i ≤ gg ∧ vn = .int .i64 now ∧ vm = .map (some M) ∧ 0 ≤ now ∧ now ≤ (i : Int) * 65535 ∧ Hid (Ok m) ∧ Hid (m.K.length ≤ i ∧ m.ev = [] ∧ m.b = budOf bud) ∧ Hid (∀ k, (g k).isSome = true ↔ k ∈ m.K) ∧ Hid (Hp w wr [mapT 9 elV M n c g, roT (itemsR g m.f), storeT T m]))
  case atStart => exact ⟨0, newM bud, 0, M0, 0, 0, fun _ => none, rfl, by omega, by omega, rfl, rfl, by omega, by omega, HO0, Lib.hid ⟨Nat.le_refl _, rfl, rfl⟩, Lib.hid (fun k => by simp [newM]), H4⟩
  case round =>
    obtain ⟨i, m, now, M, n, c, g, rfl, hi, hg, rfl, rfl, hn0, hn1, HO, HL, HW0, HH⟩ := hrel
    clear H4 HO0
    by_cases hil : i < l.length
    case neg =>
      have hic : ¬ ((i : Int) < (l.length : Int)) := by omega
      go_wp2_with fail
      go_ret
      exact ⟨rfl, HH.out.below⟩
    case pos =>
      have hic : (i : Int) < (l.length : Int) := by omega
      obtain ⟨b, ob, rfl, hlt, hcs⟩ := HI.out (by omega)
      obtain ⟨hat, hIF, hIc, hIc2⟩ := hcs i hil
      have e : ∀ j, wr.cell? ⟨b, j, none⟩ = w.cell? ⟨b, j, none⟩ := fun j => HH.out.below.cell (p := ⟨b, j, none⟩) hlt
      obtain ⟨c0, c1, c2, c3, c4, c5, c6, c7, c8⟩ := InA.at_ hil hat
      rw [← e] at c0 c1 c2 c3 c4 c5 c6 c7 c8
      obtain ⟨⟨hqn1, hqn2⟩, -, hwt⟩ := HBd.out i hil
      obtain ⟨hq1, hq2, hq3, -⟩ := HOK.out.2 i hil
      have h5 : Hp w wr (roT (itemR l[i].a l[i].c l[i].i) :: [mapT 9 elV M n c g, roT (itemsR g m.f), storeT T m]) := ro_old HH.out _ fun R hR => ⟨hIc, hIc2, fun hp => by
        obtain ⟨b', o', e', hl', hc'⟩ := hIF hp
        refine ⟨b', o', e', hR b' hl', fun j hj => ?_⟩
        have e2 : ∀ x, wr.cell? ⟨b', x, none⟩ = w.cell? ⟨b', x, none⟩ := fun x => HH.out.below.cell (p := ⟨b', x, none⟩) hl'
        rw [e2, e2]
        exact hc' j hj⟩
      clear hat hcs e hlt hIF
      generalize l[i] = q at *
      have H5 : Hid (Hp w (wr.alloc (.cells #[.int .i64 q.kd, .int .i64 q.n, .string q.k, .int .i64 q.i.k, .string q.i.t, .slice q.a q.i.l.length q.c, .bool q.kp, .int .i64 q.wh, .int .u16 q.wt] 34)) (cellsT wr.heap.size (cells9 q) :: roT (itemR q.a q.c q.i) :: [mapT 9 elV M n c g, roT (itemsR g m.f), storeT T m])) := Lib.hid (h5.cellsNew (cells9 q) 34)
      clear h5 HH
      go_upto_region 11 with fail
      generalize wr.alloc (.cells #[.int .i64 q.kd, .int .i64 q.n, .string q.k, .int .i64 q.i.k, .string q.i.t, .slice q.a q.i.l.length q.c, .bool q.kp, .int .i64 q.wh, .int .u16 q.wt] 34) = W1 at *
      generalize wr.heap.size = BX at *
      clear c0 c1 c2 c3 c4 c5 c6 c7 c8
      have b8 := H5.out.cell 8 rfl
      have hwn : IntKind.i64.wrap (now + (q.wt : Int)) = now + (q.wt : Int) := by rw [IntKind.wrap_i64]; omega
      have hww : IntKind.i64.wrap (q.wt : Int) = (q.wt : Int) := by rw [IntKind.wrap_i64]; omega
      go_upto_region 12 with fail
      obtain ⟨nw, hnw⟩ : ∃ nw : Int, now + (q.wt : Int) = nw := ⟨_, rfl⟩
      have hnw0 : 0 ≤ nw := by omega
      have hnw1 : nw ≤ ((i : Int) + 1) * 65535 := by omega
      have hnw2 : nw ≤ 4611686018427387904 := by omega
      rw [hnw]
      clear hwn hww hnw b8
      have HN2 := Lib.hid (rnew_calls H5.out (Below.refl _ _) bud)
      clear H5
      go_wp2_with fail
      refine HN2.out.mono ?_; rintro en w5 ⟨B, rfl, h6⟩
      have H6 : Hid (Hp w w5 (roT (itemR q.a q.c q.i) :: storeT T m :: refT B (newM bud) :: [cellsT BX (cells9 q), mapT 9 elV M n c g, roT (itemsR g m.f)])) := Lib.hid ((h6.pull 5 rfl).pull 3 rfl)
      have hal := act_len HO.out q nw
      have HO1 := Lib.hid (HO.out.act q nw)
      have HT1 := Lib.hid ((Tel.start HL.out.2.1).act HO.out q nw)
      have HB1 : Hid ((actM q nw m).b = budOf bud) := Lib.hid ((act_b q nw m).trans HL.out.2.2)
      have HES1 := Lib.hid (EvS.act (q := q) (now := nw) (m := m) (fun e he => by rw [HL.out.2.1] at he; cases he) HO.out)
      have hk81 := HL.out.1
      have hev0 : m.ev.length = 0 := by rw [HL.out.2.1]; rfl
      have HP1 := Lib.hid (one_calls (q := q) (m := m) (m2 := newM bud) H6.out (Below.refl _ _) hc HO.out (Ok.new bud) (by omega) (by omega) hqn1 hqn2 nw hnw0 hnw2 (by omega) (by simp [newM]) (by omega) (by simp [newM]))
      have S1 := (H6.out.pull 3 rfl).cell 0 rfl
      have S2 := (H6.out.pull 3 rfl).cell 1 rfl
      have S3 := (H6.out.pull 3 rfl).cell 2 rfl
      have S4 := (H6.out.pull 3 rfl).cell 3 rfl
      have S5 := (H6.out.pull 3 rfl).cell 4 rfl
      have S6 := (H6.out.pull 3 rfl).cell 5 rfl
      have S7 := (H6.out.pull 3 rfl).cell 6 rfl
      have S8 := (H6.out.pull 3 rfl).cell 7 rfl
      have S9 := (H6.out.pull 3 rfl).cell 8 rfl
      obtain ⟨m1, hm1⟩ : ∃ m1, actM q nw m = m1 := ⟨_, rfl⟩
      rw [hm1] at hal HO1 HP1 HT1 HB1 HES1
      have HKL : Hid (m1.K.length ≤ i + 1) := Lib.hid (by omega)
      have hK1 : m1.K.length ≤ 42 := by omega
      have hE1 : m1.ev.length ≤ 200 := by omega
      clear h6 HN2 H6 hm1 hal
      go_wp2_with fail
      refine HP1.out.mono ?_; rintro en w6 ⟨bb, rfl, -, h7⟩
      have h8 := (((h7.dropAt 1 rfl).dropAt 1 rfl)).mapNew 9 elV
      have H8 : Hid (Hp w (w6.alloc (.map #[] 0)) [mapT 9 elV w6.heap.size 0 0 (fun _ => none), storeT T m1, mapT 9 elV M n c g, roT (itemsR g m.f)]) := Lib.hid h8
      clear h7 h8 HP1 S1 S2 S3 S4 S5 S6 S7 S8 S9
      have hmm := @run_makeMap Tryz.prog
      go_upto_region 15 with fail
      generalize w6.alloc (.map #[] 0) = w7 at *
      generalize w6.heap.size = M2 at *
      obtain ⟨E, cE, hky⟩ := store_keys (H8.out.pull 1 rfl)
      have HKy := Lib.hid (hky w7 (Below.refl _ _))
      clear hky hmm
      go_wp2_with fail
      refine HKy.out.mono ?_; rintro en w8 ⟨L, gk2, kc, rfl, hko, h9⟩
      have HKO := Lib.hid hko
      have hll : L.length ≤ 42 := by rw [hko.len]; exact hK1
      have H9 : Hid (Hp w w8 [mapT 9 elV M2 0 0 (fun _ => none), roT (itemsR (fun _ => none) m1.f), storeT T m1, roT (strsR gk2 L), mapT 9 elV M n c g, roT (itemsR g m.f)]) := Lib.hid (((items_none h9 m1.f).pull 2 rfl |>.pull 1 rfl |>.pull 3 rfl))
      clear h9 HKy cE hko H8
      go_wp2_with fail
      obtain ⟨gO, rfl⟩ : ∃ gO : Nat, gO = gk := ⟨_, rfl⟩
      have HNd := Lib.hid (nodup_up HKO.out.up)
      go_loopg [13, 14, 15, 64] (L.length + 1) (fun g2 _ _ _ vj wr => ∃ (j n2 c2 : Nat) (mc : Md) (G : ByteArray → Option Iv), vj = .int .i64 j ∧ j ≤ L.length ∧ L.length - j ≤ g2 ∧ c2 ≤ j ∧ Hid (mc = endsK nw (L.take j) m1) ∧ Hid (AsI m1 mc j) ∧ Hid (HasI G L j mc) ∧ Hid (Hp w wr [mapT 9 elV M2 n2 c2 G, roT (itemsR G m1.f), storeT T mc, roT (strsR gk2 L), mapT 9 elV M n c g, roT (itemsR g m.f)]))
      case atStart => exact ⟨0, 0, 0, m1, fun _ => none, rfl, by omega, by omega, by omega, Lib.hid rfl, Lib.hid (AsI.start HO1.out), Lib.hid (HasI.start L m1), H9⟩
      case round =>
        obtain ⟨j, n2, c2, mc, G, rfl, hj, hg2, hc2, HMc, HAs, HHas, HH⟩ := hrel
        clear H9
        by_cases hjl : j < L.length
        case pos =>
          have hjc : (j : Int) < (L.length : Int) := by omega
          have c0 := strs_cell (HH.out.pull 3 rfl) hjl
          have hmem : L[j] ∈ m1.K := (HKO.out.mem _).1 (List.getElem_mem hjl)
          have hkz : L[j].size ≤ 512 := HO1.out.kz _ hmem
          have hAl := HAs.out.l
          have hAv := HAs.out.v
          have HPk := Lib.hid (peek_calls (HH.out.pull 2 rfl) (Below.refl _ _) HAs.out.ok hc L[j] (by omega) nw (by omega) (by omega))
          unfold ptr itV at HPk
          have HAs2 := Lib.hid (HAs.out.step L[j] nw)
          have HMc2 : Hid (endM L[j] nw mc = endsK nw (L.take (j + 1)) m1) := Lib.hid (by rw [endsK_take hjl, ← HMc.out])
          have HY := Lib.hid (fun hk v => HHas.out.yes (now := nw) HNd.out hjl hk v)
          have HNo := Lib.hid (fun hk => HHas.out.no (now := nw) HNd.out hjl hk)
          have HGt : Hid (Ca.inK L[j] (endM L[j] nw mc).K = true → gotI L[j] (endM L[j] nw mc) = m1.f L[j]) := Lib.hid (fun h => by unfold gotI; rw [if_pos h, HAs2.out.f])
          clear hmem
          generalize L[j] = k at *
          generalize endM k nw mc = mc2 at *
          go_wp2_with fail
          refine HPk.out.mono ?_; rintro en w9 ⟨pa, pc, rfl, h10⟩
          obtain ⟨it, hit⟩ : ∃ it, gotI k mc2 = it := ⟨_, rfl⟩
          obtain ⟨xb, hxb⟩ : ∃ xb, Ca.inK k mc2.K = xb := ⟨_, rfl⟩
          rw [hit] at h10 ⊢
          rw [hxb]
          have HIT := Lib.hid hit
          have HXB := Lib.hid hxb
          have H11 : Hid (Hp w (w9.alloc (.cells #[.int .i64 it.k, .string it.t, .slice pa it.l.length pc] 31)) (cellsT w9.heap.size [.int .i64 it.k, .string it.t, .slice pa it.l.length pc] :: roT (itemR pa pc it) :: [storeT T mc2, mapT 9 elV M2 n2 c2 G, roT (itemsR G m1.f), roT (strsR gk2 L), mapT 9 elV M n c g, roT (itemsR g m.f)])) := Lib.hid (h10.cellsNew _ 31)
          clear h10 HPk hit hxb c0 HH
          go_upto_region 19 with fail
          generalize w9.alloc (.cells #[.int .i64 it.k, .string it.t, .slice pa it.l.length pc] 31) = W9 at *
          generalize w9.heap.size = BI at *
          cases xb with
          | false =>
            have HH2 : Hid (Hp w W9 [mapT 9 elV M2 n2 c2 G, roT (itemsR G m1.f), storeT T mc2, roT (strsR gk2 L), mapT 9 elV M n c g, roT (itemsR g m.f)]) := Lib.hid ((H11.out.drop.drop.pull 2 rfl).pull 2 rfl)
            have HG2 := Lib.hid (HNo.out (fun h => by have := Ca.inK_iff.2 h; rw [HXB.out] at this; cases this))
            clear H11 HY HNo HGt
            go_wp2_with fail
            go_roundg (gk - 1)
            case measure => omega
            case rel => exact ⟨j + 1, n2, c2, mc2, G, by go_num, by omega, by omega, by omega, HMc2, HAs2, HG2, HH2⟩
          | true =>
            obtain rfl : it = m1.f k := by rw [← HIT.out]; exact HGt.out HXB.out
            have b0 := H11.out.cell 0 rfl
            have b1 := H11.out.cell 1 rfl
            have b2 := H11.out.cell 2 rfl
            have HG2 := Lib.hid (HY.out (Ca.inK_iff.1 HXB.out) ⟨(m1.f k).k, (m1.f k).t, pa, (m1.f k).l.length, pc⟩)
            obtain ⟨n3, hn3⟩ : ∃ n3, (n2 + if (G k).isSome = true then 0 else 1) = n3 := ⟨_, rfl⟩
            have HN3 := Lib.hid hn3
            clear hn3 HY HNo HGt HIT
            go_wp2_with (at_mapUpdate; refine Sp.Hp.mapPut (H11.out.pull 3 rfl) rfl _ _ _ 57 rfl Tryz.underlying9 Tryz.underlying57 rfl k rfl (by unfold maxLen; omega) ⟨(m1.f k).k, (m1.f k).t, pa, (m1.f k).l.length, pc⟩ rfl True.intro (by unfold maxLen; omega) n3 HN3.out ?_)
            intro w10 h12
            have h13 := items_put (((h12.dropAt 1 rfl).pull 3 rfl).pull 2 rfl)
            have HH2 : Hid (Hp w w10 [mapT 9 elV M2 n3 (c2 + 1) (setG G k (some ⟨(m1.f k).k, (m1.f k).t, pa, (m1.f k).l.length, pc⟩)), roT (itemsR (setG G k (some ⟨(m1.f k).k, (m1.f k).t, pa, (m1.f k).l.length, pc⟩)) m1.f), storeT T mc2, roT (strsR gk2 L), mapT 9 elV M n c g, roT (itemsR g m.f)]) := Lib.hid (h13.pull 1 rfl)
            clear h12 h13 H11 b0 b1 b2
            go_wp2_with fail
            go_roundg (gk - 1)
            case measure => omega
            case rel => exact ⟨j + 1, n3, c2 + 1, mc2, _, by go_num, by omega, by omega, by omega, HMc2, HAs2, HG2, HH2⟩
        case neg =>
          have hjc : ¬ ((j : Int) < (L.length : Int)) := by omega
          obtain rfl : j = L.length := by omega
          rw [List.take_length] at HMc
          have HTe := Lib.hid (TeI.of HT1.out HMc.out HKO.out HW0.out HHas.out)
          have HES := Lib.hid (show EvS mc by rw [HMc.out]; exact EvS.ends L HES1.out HO1.out)
          have HE5 := Lib.hid HAs.out.ok.e5
          have hAv := HAs.out.v
          have H13 := Lib.hid (HH.out.mapNew 9 elN)
          have hmm := @run_makeMap Tryz.prog
          go_upto_region 24 with fail
          generalize wr.alloc (.map #[] 0) = w11 at *
          generalize wr.heap.size = M3 at *
          have HEv := Lib.hid (events_calls (H13.out.pull 3 rfl) (Below.refl _ _) HAs.out.ok)
          unfold ptr at HEv
          obtain ⟨E, hE⟩ : ∃ E, mc.ev = E := ⟨_, rfl⟩
          have hel : E.length ≤ 300 := by rw [← hE]; omega
          have HEe := Lib.hid hE
          unfold EvS at HES
          rw [hE] at HEv HES HE5 HTe
          clear hmm H13 HH hE hAv
          go_wp2_with fail
          refine HEv.out.mono ?_; rintro en w12 ⟨v12, rfl, h14⟩
          obtain ⟨ea, ec, rfl, -, hec, hea⟩ := h14.rowForm
          have H14 : Hid (Hp w w12 [mapT 9 elN M3 0 0 (toldG (E.take 0)), evsT (.slice ea E.length ec) E, storeT T (toldM mc), mapT 9 elV M2 n2 c2 G, roT (itemsR G m1.f), mapT 9 elV M n c g, roT (itemsR g m.f)]) := Lib.hid ((h14.pull 2 rfl).dropAt 5 rfl)
          clear h14 HEv
          go_wp2_with fail
          go_loopg [17, 19, 84] (E.length + 1) (fun g3 va _ ve wr => ∃ j n3 : Nat, ve = .int .i64 j ∧ j ≤ E.length ∧ E.length - j ≤ g3 ∧ va = .bool (allE (E.take j)) ∧ Hid (Hp w wr [mapT 9 elN M3 n3 j (toldG (E.take j)), evsT (.slice ea E.length ec) E, storeT T (toldM mc), mapT 9 elV M2 n2 c2 G, roT (itemsR G m1.f), mapT 9 elV M n c g, roT (itemsR g m.f)]))
          case atStart => exact ⟨0, 0, rfl, by omega, by omega, rfl, H14⟩
          case round =>
            obtain ⟨j, n3, rfl, hj, hg3, rfl, HH⟩ := hrel
            clear H14
            by_cases hjl : j < E.length
            case pos =>
              have hjc : (j : Int) < (E.length : Int) := by omega
              obtain ⟨gb, rfl⟩ := hea (by omega)
              obtain ⟨e0, e1⟩ := evs_cell (HH.out.pull 1 rfl) hjl
              have hsz := HES.out _ (List.getElem_mem hjl)
              have h05 := HE5.out _ (List.getElem_mem hjl)
              have HTk := Lib.hid (toldG_take hjl)
              have HAk := Lib.hid (allE_take hjl)
              have HZ0 := Lib.hid (fun (x : Int) (y : ByteArray) => HH.out.cellsNew [.int .i64 x, .string y] 62)
              have HX := Lib.hid (HH.out.bel (Sp.bbox (w := wr) (.cells #[.int .i64 E[j].1, .string E[j].2] 62)))
              obtain ⟨n4, hn4⟩ : ∃ n4, (n3 + if (toldG (E.take j) E[j].2).isSome = true then 0 else 1) = n4 := ⟨_, rfl⟩
              have HN4 := Lib.hid hn4
              obtain ⟨ab, hab⟩ : ∃ ab, allE (E.take j) = ab := ⟨_, rfl⟩
              rw [hab] at HAk ⊢
              clear hn4 HH hab
              generalize E[j].1 = ek at *
              generalize E[j].2 = q2 at *
              have HWf : Hid ((Lit.int .i64 ek).wf = true) := Lib.hid (WalkArith.wf_i64 ⟨by omega, by omega⟩)
              have b0 : (wr.alloc (.cells #[.int .i64 ek, .string q2] 62)).cell? ⟨wr.heap.size, 0, none⟩ = some (.int .i64 ek) := by rw [World.cell?_alloc_new]; rfl
              have b1 : (wr.alloc (.cells #[.int .i64 ek, .string q2] 62)).cell? ⟨wr.heap.size, 1, none⟩ = some (.string q2) := by rw [World.cell?_alloc_new]; rfl
              have HBx : Hid (∀ W', Below (wr.alloc (.cells #[.int .i64 ek, .string q2] 62)).heap.size (wr.alloc (.cells #[.int .i64 ek, .string q2] 62)) W' → True) := Lib.hid (fun _ _ => trivial)
              clear HBx
              have HY0 : Hid (Hp w (wr.alloc (.cells #[.int .i64 ek, .string q2] 62)) [mapT 9 elN M3 n3 j (toldG (E.take j)), evsT (.slice (some ⟨gb, 0, none⟩) E.length ec) E, storeT T (toldM mc), mapT 9 elV M2 n2 c2 G, roT (itemsR G m1.f), mapT 9 elV M n c g, roT (itemsR g m.f)]) := HX
              have HY : Hid (Hp w (wr.alloc (.cells #[.int .i64 ek, .string q2] 62)) (cellsT wr.heap.size [.int .i64 ek, .string q2] :: [mapT 9 elN M3 n3 j (toldG (E.take j)), evsT (.slice (some ⟨gb, 0, none⟩) E.length ec) E, storeT T (toldM mc), mapT 9 elV M2 n2 c2 G, roT (itemsR G m1.f), mapT 9 elV M n c g, roT (itemsR g m.f)])) := Lib.hid (HZ0.out ek q2)
              clear HX HY0 b0 b1 HZ0
              go_upto_region 27 with fail
              generalize wr.alloc (.cells #[.int .i64 ek, .string q2] 62) = W14 at *
              generalize wr.heap.size = BE at *
              have b0 := HY.out.cell 0 rfl
              have b1 := HY.out.cell 1 rfl
              go_wp2_with (at_mapUpdate; refine Sp.Hp.mapPut (HY.out.pull 1 rfl) rfl _ _ _ 60 rfl Tryz.underlying9 Tryz.underlying60 rfl q2 rfl (by unfold maxLen; omega) ek rfl HWf.out (by unfold maxLen; omega) n4 HN4.out ?_)
              intro w15 h15
              rw [← HTk.out] at h15
              have H15 : Hid (Hp w w15 (cellsT BE [.int .i64 ek, .string q2] :: [mapT 9 elN M3 n4 (j + 1) (toldG (E.take (j + 1))), evsT (.slice (some ⟨gb, 0, none⟩) E.length ec) E, storeT T (toldM mc), mapT 9 elV M2 n2 c2 G, roT (itemsR G m1.f), mapT 9 elV M n c g, roT (itemsR g m.f)])) := Lib.hid (Sp.Hp.pull h15 1 rfl)
              clear h15 HY b0 b1 e0 e1 HTk
              have b0 := H15.out.cell 0 rfl
              have H16 := Lib.hid H15.out.drop
              cases ab with
              | true =>
                have HA1 : Hid (allE (E.take (j + 1)) = true) := Lib.hid (by rw [HAk.out]; rfl)
                go_wp2_with fail
                go_roundg (gk - 1)
                case measure => omega
                case rel => exact ⟨j + 1, n4, by go_num, by omega, by omega, by rw [HA1.out], H16⟩
              | false =>
                have HA1 : Hid (allE (E.take (j + 1)) = (ek == 5)) := Lib.hid (by rw [HAk.out]; rfl)
                go_wp2_with fail
                go_roundg (gk - 1)
                case measure => omega
                case rel => exact ⟨j + 1, n4, by go_num, by omega, by omega, by rw [HA1.out], H16⟩
            case neg =>
              have hjc : ¬ ((j : Int) < (E.length : Int)) := by omega
              obtain rfl : j = E.length := by omega
              rw [List.take_length] at *
              obtain ⟨ab, hab⟩ : ∃ ab, allE E = ab := ⟨_, rfl⟩
              rw [hab]
              have HAB := Lib.hid hab
              have H20 : Hid (Hp w wr [mapT 9 elV M2 n2 c2 G, mapT 9 elN M3 n3 E.length (toldG E), storeT T (toldM mc), roT (itemsR G m1.f), mapT 9 elV M n c g, roT (itemsR g m.f)]) := Lib.hid ((HH.out.dropAt 1 rfl).pull 2 rfl)
              clear HH hab hea
              go_wp2_with (at_range; refine Sp.Hp.mapRange H20.out rfl _ 57 rfl Tryz.underlying9 Tryz.underlying57 rfl ?_; intro w0 h0 hs0)
              try go_frame
              have H0 : Hid (Hp w w0 [rngT 9 elV M2 wr.heap.size n2 c2 G n2, mapT 9 elN M3 n3 E.length (toldG E), storeT T (toldM mc), roT (itemsR G m1.f), mapT 9 elV M n c g, roT (itemsR g m.f)]) := Lib.hid h0
              clear h0 hs0 H20
              generalize wr.heap.size = rr at *
              go_loopg [20, 21, 22, 23] (n2 + 1) (fun g4 _ _ _ _ wr => ∃ cnt : Nat, cnt ≤ g4 ∧ Hid (Hp w wr [rngT 9 elV M2 rr n2 c2 G cnt, mapT 9 elN M3 n3 E.length (toldG E), storeT T (toldM mc), roT (itemsR G m1.f), mapT 9 elV M n c g, roT (itemsR g m.f)]))
              case atStart => exact ⟨n2, by omega, H0⟩
              case round =>
                obtain ⟨cnt, hcg, HH⟩ := hrel
                clear H0
                have H1 := Lib.hid HH.out.rngEnd
                go_wp2_with (first | (at_next; refine Sp.Hp.rngNext HH.out rfl _ rfl Tryz.underlying9 rfl ?_ ?_) | (at_range; refine Sp.Hp.mapRange (H1.out.pull 4 rfl) rfl _ 57 rfl Tryz.underlying9 Tryz.underlying57 rfl ?_; intro w0 h0 hs0))
                · clear HH
                  try go_frame
                  have H0 : Hid (Hp w w0 [rngT 9 elV M wr.heap.size n c g n, mapT 9 elV M2 n2 c2 G, mapT 9 elN M3 n3 E.length (toldG E), storeT T (toldM mc), roT (itemsR G m1.f), roT (itemsR g m.f)]) := Lib.hid h0
                  clear h0 hs0 H1
                  generalize wr.heap.size = rr2 at *
                  go_loopg [24, 25, 26] (n + 1) (fun g5 _ _ _ wr => ∃ cnt : Nat, cnt ≤ g5 ∧ Hid (Hp w wr [rngT 9 elV M rr2 n c g cnt, mapT 9 elV M2 n2 c2 G, mapT 9 elN M3 n3 E.length (toldG E), storeT T (toldM mc), roT (itemsR G m1.f), roT (itemsR g m.f)]))
                  case atStart => exact ⟨n, by omega, H0⟩
                  case round =>
                    obtain ⟨cnt2, hcg2, HH⟩ := hrel
                    clear H0
                    have H1 := Lib.hid HH.out.rngEnd
                    go_wp2_with (at_next; refine Sp.Hp.rngNext HH.out rfl _ rfl Tryz.underlying9 rfl ?_ ?_)
                    · clear HH
                      have HBy := Lib.hid (bytes_calls (H1.out.pull 3 rfl) (Below.refl _ _))
                      unfold ptr at HBy
                      have HLe := Lib.hid HAs.out.ok.le
                      have HBb : Hid (mc.b = budOf bud) := Lib.hid (HAs.out.b.trans HB1.out)
                      obtain ⟨s, hs⟩ : ∃ s : Int, ((sumB (toldM mc).f (toldM mc).K : Nat) : Int) = s := ⟨_, rfl⟩
                      rw [hs] at HBy
                      have hs2 : ((sumB mc.f mc.K : Nat) : Int) = s := hs
                      have hle : ¬ max 0 (min bud 1000000000000) < s := by
                        have h1 := HLe.out
                        rw [hs2, HBb.out] at h1
                        unfold budOf at h1
                        omega
                      have HF : Hid (Hp w wr [mapT 9 elV M2 n2 c2 G, roT (itemsR G (toldM mc).f), storeT T (toldM mc)]) := Lib.hid (by
                        rw [show (toldM mc).f = m1.f from HAs.out.f]
                        exact ((((H1.out.drop.dropAt 1 rfl).dropAt 3 rfl).pull 2 rfl).pull 1 rfl))
                      have HK2 : Hid (mc.K.length ≤ i + 1) := Lib.hid (Nat.le_trans HAs.out.l HKL.out)
                      have HW2 : Hid (∀ k, (G k).isSome = true ↔ k ∈ (toldM mc).K) := Lib.hid HTe.out.w2
                      have HOt := Lib.hid HAs.out.ok.told
                      clear H1 hs hs2 HLe
                      go_wp2_with fail
                      refine HBy.out.mono ?_; rintro en w21 ⟨rfl, rfl⟩
                      go_wp2_with fail
                      go_roundg (gO - 1)
                      case measure => omega
                      case rel => exact ⟨i + 1, toldM mc, nw, M2, n2, c2, G, by go_num, by omega, by omega, rfl, rfl, hnw0, hnw1, HOt, Lib.hid ⟨HK2.out, rfl, HBb.out⟩, HW2, HF⟩
                    · intro k y w16 cnt16 hgk hks hlt h16 hen
                      replace hen : (Instr.entry (.pointer (some ⟨rr2, 0, none⟩))).run Tryz.prog w16 = .ok (.tuple #[.string k, .agg #[.int .i64 y.k, .string y.t, .slice y.a y.n y.c]]) w16 := hen
                      rw [show elV.enc y = Value.agg #[.int .i64 y.k, .string y.t, .slice y.a y.n y.c] from rfl]
                      have H17 := Lib.hid h16
                      have HGk := Lib.hid hgk
                      clear h16 HH H1 hgk
                      go_upto_region 39 with fail
                      clear hen
                      obtain ⟨z, hz⟩ : ∃ z, (G k).getD elV.zero = z := ⟨_, rfl⟩
                      obtain ⟨hb, hhb⟩ : ∃ hb, (G k).isSome = hb := ⟨_, rfl⟩
                      have hlk : (Instr.lookup 57 (.map (some M2)) (.string k) true).run Tryz.prog w16 = .ok (.tuple #[.agg #[.int .i64 z.k, .string z.t, .slice z.a z.n z.c], .bool hb]) w16 := by
                        have h1 := Sp.Hp.mapLookOk (T := 57) (H17.out.pull 1 rfl) Tryz.underlying9 Tryz.underlying57 k hks
                        rw [hz, hhb] at h1
                        exact h1
                      have H18 : Hid (Hp w (w16.alloc (.cells #[.int .i64 z.k, .string z.t, .slice z.a z.n z.c] 31)) [rngT 9 elV M rr2 n c g cnt16, mapT 9 elV M2 n2 c2 G, mapT 9 elN M3 n3 E.length (toldG E), storeT T (toldM mc), roT (itemsR G m1.f), roT (itemsR g m.f)]) := Lib.hid (H17.out.bel (Sp.bbox _))
                      have HHb := Lib.hid hhb
                      clear hz hhb H17
                      go_upto_region 40 with fail
                      generalize w16.alloc (.cells #[.int .i64 z.k, .string z.t, .slice z.a z.n z.c] 31) = W18 at *
                      clear hlk
                      obtain ⟨tz, htz⟩ : ∃ tz, (toldG E k).getD 0 = tz := ⟨_, rfl⟩
                      have hlt2 : (Instr.lookup 60 (.map (some M3)) (.string k) false).run Tryz.prog W18 = .ok (.int .i64 tz) W18 := by
                        have h1 := Sp.Hp.mapLook (T := 60) (H18.out.pull 2 rfl) Tryz.underlying9 Tryz.underlying60 k hks
                        rw [show (toldG E k).getD elN.zero = tz from htz] at h1
                        exact h1
                      have HTz := Lib.hid htz
                      clear htz
                      cases hb with
                      | true =>
                        go_wp2_with fail
                        go_roundg (gk - 1)
                        case measure => omega
                        case rel => exact ⟨cnt16, by omega, H18⟩
                      | false =>
                        by_cases ht2 : tz < 2
                        · cases ab with
                          | true =>
                            go_wp2_with fail
                            go_roundg (gk - 1)
                            case measure => omega
                            case rel => exact ⟨cnt16, by omega, H18⟩
                          | false =>
                            exfalso
                            obtain ⟨e, he, he2⟩ := HTe.out.away HAB.out HGk.out (by
                              have := HHb.out
                              cases hG : G k with
                              | none => rfl
                              | some v => rw [hG] at this; cases this)
                            have := HTz.out
                            rw [he] at this
                            have this : e = tz := this
                            omega
                        · go_wp2_with fail
                          go_roundg (gk - 1)
                          case measure => omega
                          case rel => exact ⟨cnt16, by omega, H18⟩
                · intro k x w16 cnt16 hgk hks hlt h16 hen
                  replace hen : (Instr.entry (.pointer (some ⟨rr, 0, none⟩))).run Tryz.prog w16 = .ok (.tuple #[.string k, .agg #[.int .i64 x.k, .string x.t, .slice x.a x.n x.c]]) w16 := hen
                  rw [show elV.enc x = Value.agg #[.int .i64 x.k, .string x.t, .slice x.a x.n x.c] from rfl]
                  have H17 : Hid (Hp w (w16.alloc (.cells #[.int .i64 x.k, .string x.t, .slice x.a x.n x.c] 31)) (cellsT w16.heap.size [.int .i64 x.k, .string x.t, .slice x.a x.n x.c] :: [rngT 9 elV M2 rr n2 c2 G cnt16, mapT 9 elN M3 n3 E.length (toldG E), storeT T (toldM mc), roT (itemsR G m1.f), mapT 9 elV M n c g, roT (itemsR g m.f)])) := Lib.hid (h16.cellsNew _ 31)
                  have HGk := Lib.hid hgk
                  clear h16 HH H1 hgk
                  go_upto_region 33 with fail
                  generalize w16.alloc (.cells #[.int .i64 x.k, .string x.t, .slice x.a x.n x.c] 31) = W17 at *
                  generalize w16.heap.size = BX1 at *
                  clear hen
                  obtain ⟨y, hy⟩ : ∃ y, (g k).getD elV.zero = y := ⟨_, rfl⟩
                  obtain ⟨hb, hhb⟩ : ∃ hb, (g k).isSome = hb := ⟨_, rfl⟩
                  have hlk : (Instr.lookup 57 (.map (some M)) (.string k) true).run Tryz.prog W17 = .ok (.tuple #[.agg #[.int .i64 y.k, .string y.t, .slice y.a y.n y.c], .bool hb]) W17 := by
                    have h1 := Sp.Hp.mapLookOk (T := 57) (H17.out.pull 5 rfl) Tryz.underlying9 Tryz.underlying57 k hks
                    rw [hy, hhb] at h1
                    exact h1
                  have H18 : Hid (Hp w (W17.alloc (.cells #[.int .i64 y.k, .string y.t, .slice y.a y.n y.c] 31)) (cellsT W17.heap.size [.int .i64 y.k, .string y.t, .slice y.a y.n y.c] :: cellsT BX1 [.int .i64 x.k, .string x.t, .slice x.a x.n x.c] :: [rngT 9 elV M2 rr n2 c2 G cnt16, mapT 9 elN M3 n3 E.length (toldG E), storeT T (toldM mc), roT (itemsR G m1.f), mapT 9 elV M n c g, roT (itemsR g m.f)])) := Lib.hid (H17.out.cellsNew _ 31)
                  have HY := Lib.hid hy
                  have HHb := Lib.hid hhb
                  clear hy hhb H17
                  go_upto_region 34 with fail
                  generalize W17.alloc (.cells #[.int .i64 y.k, .string y.t, .slice y.a y.n y.c] 31) = W18 at *
                  generalize W17.heap.size = BY at *
                  clear hlk
                  obtain ⟨tz, htz⟩ : ∃ tz, (toldG E k).getD 0 = tz := ⟨_, rfl⟩
                  have hlt2 : (Instr.lookup 60 (.map (some M3)) (.string k) false).run Tryz.prog W18 = .ok (.int .i64 tz) W18 := by
                    have h1 := Sp.Hp.mapLook (T := 60) (H18.out.pull 3 rfl) Tryz.underlying9 Tryz.underlying60 k hks
                    rw [show (toldG E k).getD elN.zero = tz from htz] at h1
                    exact h1
                  have HTz := Lib.hid htz
                  have H19 := Lib.hid H18.out.drop.drop
                  clear htz
                  cases ab with
                  | true =>
                    have htr : (tz = 0 ∧ ¬ 1 < tz) ∨ (tz ≠ 0 ∧ ¬ 1 < tz) ∨ (tz ≠ 0 ∧ 1 < tz) := by omega
                    clear H18 HY HHb
                    rcases htr with ⟨rfl, ht⟩ | ⟨hz, ht⟩ | ⟨hz, ht⟩
                    · go_wp2_with fail
                      go_roundg (gk - 1)
                      case measure => omega
                      case rel => exact ⟨cnt16, by omega, H19⟩
                    · have hz0 : (tz == 0) = false := beq_eq_false_iff_ne.2 hz
                      clear hz
                      go_wp2_with fail
                      go_roundg (gk - 1)
                      case measure => omega
                      case rel => exact ⟨cnt16, by omega, H19⟩
                    · have hz0 : (tz == 0) = false := beq_eq_false_iff_ne.2 hz
                      clear hz
                      go_wp2_with fail
                      go_roundg (gk - 1)
                      case measure => omega
                      case rel => exact ⟨cnt16, by omega, H19⟩
                  | false =>
                    rcases HTe.out.there HAB.out HGk.out with ⟨hno, y2, hy2, hf⟩ | h1
                    · obtain rfl : tz = 0 := by rw [← HTz.out, hno]; rfl
                      obtain rfl : hb = true := by rw [← HHb.out, hy2]; rfl
                      obtain rfl : y = y2 := by rw [← HY.out, hy2]; rfl
                      obtain ⟨⟨mx1, mx2, mx3⟩, fx, bx⟩ := items_at (H18.out.pull 5 rfl) HGk.out
                      obtain ⟨⟨my1, my2, my3⟩, fy, by_⟩ := items_at (H18.out.pull 7 rfl) hy2
                      rw [HAs.out.f] at hf
                      have HS := Lib.hid (Ia.refSame_calls W18 x.k y.k x.t y.t x.a y.a x.c y.c x.n y.n (m1.f k).l (m.f k).l mx3.symm my3.symm (by omega) (by omega) fx fy true ⟨fun _ => ⟨by rw [mx1, my1, hf], by rw [mx2, my2, hf], by rw [hf]⟩, fun _ => rfl⟩)
                      have x0 := (H18.out.pull 1 rfl).cell 0 rfl
                      have x1 := (H18.out.pull 1 rfl).cell 1 rfl
                      have x2 := (H18.out.pull 1 rfl).cell 2 rfl
                      have y0 := H18.out.cell 0 rfl
                      have y1 := H18.out.cell 1 rfl
                      have y2 := H18.out.cell 2 rfl
                      clear H18 HY HHb hno hy2 hf mx1 mx2 mx3 my1 my2 my3 fx fy bx by_
                      go_wp2_with fail
                      refine HS.out.mono ?_; rintro en w20 ⟨rfl, hb20⟩
                      have H20 := Lib.hid (H19.out.bel hb20)
                      have hlt3 : (Instr.lookup 60 (.map (some M3)) (.string k) false).run Tryz.prog w20 = .ok (.int .i64 0) w20 := by
                        have h1 := Sp.Hp.mapLook (T := 60) (H20.out.pull 1 rfl) Tryz.underlying9 Tryz.underlying60 k hks
                        rw [show (toldG E k).getD elN.zero = 0 from HTz.out] at h1
                        exact h1
                      clear hb20 HS H19 x0 x1 x2 y0 y1 y2 HTz
                      go_wp2_with fail
                      go_roundg (gk - 1)
                      case measure => omega
                      case rel => exact ⟨cnt16, by omega, H20⟩
                    · obtain rfl : tz = 1 := by rw [← HTz.out, h1]; rfl
                      clear H18 HY HHb HTz h1
                      go_wp2_with fail
                      go_roundg (gk - 1)
                      case measure => omega
                      case rel => exact ⟨cnt16, by omega, H19⟩
end Go.Proofs.YtmjlhmohglbecaaGreatDoor.Sa
