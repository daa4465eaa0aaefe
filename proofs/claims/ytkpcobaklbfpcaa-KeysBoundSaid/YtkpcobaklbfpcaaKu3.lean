/- KeysBound. No condition. -/
import Derived.Test.YtkpcobaklbfpcaaKu2
namespace Go.Proofs.Ytkpcobaklbfpcaa.Ka
set_option linter.unusedVariables false
set_option linter.unusedSimpArgs false
open Go.ChangeShapes Go.WideShapes Go.ChangeAt Go.RowKit Go.Maps Go.WideMaps
open Sp (Th Hp Stays All Ro roT cellsT rowT exT puT star mapT setG jmapT setN rngT)
set_option maxHeartbeats 64000000 in
set_option maxRecDepth 100000 in
theorem keysBound (x0 : Int) (xa : Option Addr) (xc : Nat) (L : List Ac) (x2 : Int) (w : World) (h2a : -9223372036854775808 ≤ x2) (h2b : x2 ≤ 9223372036854775807) (hI : InA w xa L) (hS : ∀ i (h : i < L.length), okAc L[i]) :
    Calls Try.prog 4 #[.int .i64 x0, .slice xa L.length xc, .int .i64 x2] w fun e w' => e = .returned (.bool true) ∧ Below w.heap.size w w' := by
  have HI := Lib.hid hI
  have HSZ := Lib.hid hS
  have HWx := Lib.hid (wf_of h2a h2b)
  clear hI hS h2a h2b
  have HA := Lib.hid (keysAlive w)
  obtain ⟨m, hm⟩ : ∃ m : Nat, max x0 1 = (m : Int) ∧ 1 ≤ m := ⟨(max x0 1).toNat, by omega, by omega⟩
  have HM := Lib.hid hm
  have hmx : (if x0 < 1 then (1 : Int) else x0) = (m : Int) := by rw [← hm.1]; split <;> omega
  clear hm
  go_enter Try.func4, Try.ntmps4
  go_wp2_with fail
  refine HA.out.mono ?_; rintro en w2 ⟨rfl, hb2⟩
  have HB2 := Lib.hid hb2
  clear hb2 HA
  by_cases hl : 60 < L.length
  · have hlc : (60 : Int) < (L.length : Int) := by omega
    go_wp2_with fail
    go_ret
    exact ⟨rfl, HB2.out⟩
  have hlc : ¬ (60 : Int) < (L.length : Int) := by omega
  have HN := Lib.hid (new_calls (Hp.nil HB2.out) (Below.refl _ _) x0)
  rw [HM.out.1] at HN
  unfold ptr at HN
  have hmm := @run_makeMap Try.prog
  go_wp2_with fail
  refine HN.out.mono ?_; rintro en w3 ⟨T, rfl, h3⟩
  have H3 : Hid (Hp w (w3.alloc (.map #[] 0)) (mapT 9 elM w3.heap.size ([] : Nl).length 0 (lookL (nwL [])) :: star (([] : Nl).map jT) :: keysT T (m : Int) [] 0 :: [])) := Lib.hid ((h3.starNil.mapNew 9 elM))
  clear h3 HN
  go_wp2_with fail
  clear hmm
  generalize w3.alloc (.map #[] 0) = w4 at *
  generalize w3.heap.size = M at *
  go_loopg [26] (L.length + 1) (fun g vi wr => ∃ (i c : Nat) (S : Rows) (W : Nl), vi = .int .i64 i ∧ i ≤ L.length ∧ L.length - i ≤ g ∧ Hid (Few i S ∧ S.length ≤ m) ∧ Hid (NowI S W i c) ∧ Hid (Hp w wr (mapT 9 elM M W.length c (lookL (nwL W)) :: star (W.map jT) :: keysT T (m : Int) S i :: [])))
  case atStart => exact ⟨0, 0, [], [], rfl, by omega, by omega, Lib.hid ⟨Few.nil 0, Nat.zero_le _⟩, Lib.hid ⟨rfl, Nat.zero_le _, fun r hr => (nomatch hr)⟩, H3⟩
  case round =>
    obtain ⟨i, c, S, W, rfl, hi, hg, HF, HNw, HH⟩ := hrel
    clear H3
    by_cases hil : i < L.length
    case pos =>
      have hic : (i : Int) < (L.length : Int) := by omega
      have hi60 : i ≤ 60 := by omega
      obtain ⟨b, o, rfl, hlt, hcs⟩ := HI.out (by omega)
      obtain ⟨c0, c1, c2⟩ := hcs i hil
      have e : ∀ j, wr.cell? ⟨b, j, none⟩ = w.cell? ⟨b, j, none⟩ := fun j => HH.out.below.cell (p := ⟨b, j, none⟩) hlt
      rw [← e] at c0 c1 c2
      obtain ⟨hk, hn⟩ := HSZ.out i hil
      have HKN := Lib.hid (And.intro hk hn)
      have HOK := Lib.hid (keys_ok (HH.out.pull 2 rfl))
      clear hcs hlt e hk hn
      generalize L[i] = q at *
      obtain ⟨kd, n, k⟩ := q
      simp only at c0 c1 c2 HKN
      have HX : Hid (Hp w (wr.alloc (.cells #[.int .i64 kd, .int .i64 n, .string k] 29)) (cellsT wr.heap.size [.int .i64 kd, .int .i64 n, .string k] :: mapT 9 elM M W.length c (lookL (nwL W)) :: star (W.map jT) :: keysT T (m : Int) S i :: [])) := Lib.hid (HH.out.cellsNew [.int .i64 kd, .int .i64 n, .string k] 29)
      go_upto_region 10 with fail
      generalize wr.alloc (.cells #[.int .i64 kd, .int .i64 n, .string k] 29) = W0 at *
      generalize wr.heap.size = BX at *
      clear c0 c1 c2 HH
      have b1 := HX.out.cell 1 rfl
      have b2 := HX.out.cell 2 rfl
      have HA1 := Lib.hid (add_calls (HX.out.pull 3 rfl) (Below.refl _ _) HKN.out.1 HM.out.2 (by have := HF.out.1.s; omega) (fun r hr => Nat.le_trans (HF.out.1.r r hr) (by omega)) (by omega) n HKN.out.2)
      have HF2 : Hid (Few (i + 1) (addR k n (roomR m k S)) ∧ (addR k n (roomR m k S)).length ≤ m) := Lib.hid ⟨(HF.out.1.sub (room_sub m k S)).add (fun r hr => HOK.out.up r ((room_sub m k S).subset hr)) k n, room_le HM.out.2 HF.out.2 n⟩
      unfold ptr at HA1
      clear HX
      obtain ⟨fb, hfb⟩ : ∃ fb, fullR m k S = fb := ⟨_, rfl⟩
      go_wp2_with fail
      refine HA1.out.mono ?_; rintro en w5 ⟨v5, rfl, h5⟩
      obtain ⟨a5, c5, rfl, -, -⟩ := rowI_slice h5
      have H5 : Hid (Hp w w5 (mapT 9 elM M W.length c (lookL (nwL W)) :: star (W.map jT) :: cellsT BX [.int .i64 kd, .int .i64 n, .string k] :: keysT T (m : Int) (addR k n (roomR m k S)) (i + 1) :: [])) := Lib.hid (h5.sel [3, 4, 2, 1] rfl |>.dropAt 4 rfl)
      clear h5 HA1 b1 b2
      cases fb with
      | false =>
        have er : roomR m k S = S := by unfold roomR; rw [hfb]; rfl
        rw [hfb]
        rw [er] at H5 HF2
        have HN1 := HNw
        have HOK1 := HOK
        generalize (goneR m k S).1 = gq at *
        generalize (goneR m k S).2.length = gl at *
        clear hfb er
        generalize hS1 : S = S1 at H5 HF2 HN1 HOK1
        generalize hW1 : W = W1 at H5 HN1
        generalize hc1 : c = c1 at H5 HN1
        clear hS1 hW1 hc1
        go_upto_region 15 with fail
        clear HF HNw HOK W S c
        have b1 := (H5.out.pull 2 rfl).cell 1 rfl
        have b2 := (H5.out.pull 2 rfl).cell 2 rfl
        have hql : ∀ W r, (binOp .eql 49 (.map r) (.map none)).run Try.prog W = .ok (.bool r.isNone) W := fun W r => run_eql_map_nil W 49 _ _ r Try.underlying49
        obtain ⟨S2, HS2⟩ : ∃ S2, Hid (addR k n S1 = S2) := ⟨_, Lib.hid rfl⟩
        by_cases hin : k ∈ keysL S1
        · obtain ⟨A, ids, B, hSe⟩ := key_split hin
          have hpl := HN1.out.pl
          rw [hSe] at hpl
          obtain ⟨LA, bb, cc, LB, hWe, hA, hB⟩ := plainN_mid hpl
          have hok := HOK1.out
          rw [hSe] at hok
          have hu : Up ids := hok.up (k, ids) (List.mem_append.2 (.inr (List.mem_cons_self ..)))
          have hcc : cc ≤ i := HN1.out.cs (k, ⟨ids, bb, cc⟩) (by rw [hWe]; exact List.mem_append.2 (.inr (List.mem_cons_self ..)))
          have hlk := Sp.Hp.mapLook (T := 48) H5.out Try.underlying9 Try.underlying48 k HKN.out.1
          rw [show elM.enc ((lookL (nwL W1) k).getD elM.zero) = .map (some bb) by rw [hWe]; exact now_look (r := ⟨ids, bb, cc⟩) hok.mid hA hB] at hlk
          have HN2 : Hid (NowI S2 (LA ++ (k, ⟨withI n ids, bb, cc + 1⟩) :: LB) (i + 1) c1) := Lib.hid ⟨by
              rw [← HS2.out, hSe, add_mid hok.mid, plainN_app, hA, ← hB]; rfl, by have := HN1.out.c; omega, fun r hr => by
              rcases List.mem_append.1 hr with hr | hr
              · have := HN1.out.cs r (by rw [hWe]; exact List.mem_append.2 (.inl hr)); omega
              · rcases List.mem_cons.1 hr with hr | hr
                · rw [hr]; show cc + 1 ≤ _; omega
                · have := HN1.out.cs r (by rw [hWe]; exact List.mem_append.2 (.inr (List.mem_cons_of_mem _ hr))); omega⟩
          rw [HS2.out] at H5 HF2
          have HU := Lib.hid hu
          have HWe := Lib.hid hWe
          have hcc2 : cc ≤ 1000 := by omega
          obtain ⟨W2, HW2⟩ : ∃ W2, Hid (LA ++ (k, (⟨withI n ids, bb, cc + 1⟩ : Nw)) :: LB = W2) := ⟨_, Lib.hid rfl⟩
          rw [HW2.out] at HN2
          clear hin hSe hpl hok hWe hA hB hu HN1 HOK1
          go_wp2_with (at_mapUpdate; refine now_put H5.out HWe.out HW2.out HU.out hcc2 HKN.out.2 rfl _ _ _ rfl rfl rfl rfl ?_)
          intro w6 h6
          have H6 := Lib.hid h6
          clear h6 H5 hlk b1 b2
          have HSl : Hid (W2.length = S2.length) := Lib.hid HN2.out.len
          have HL := Lib.hid (len_calls (H6.out.pull 3 rfl) (Below.refl _ _))
          unfold ptr at HL
          have hln : ∀ ty, (Builtin.len_ #[48] ty #[.map (some M)]).run Try.prog w6 = .ok (.int .i64 S2.length) w6 := fun ty => by
            rw [← HSl.out]
            exact Sp.Hp.mapLen H6.out Try.underlying48 ty
          have hgt : ¬ ((m : Int) < (S2.length : Int)) := by have := HF2.out.2; omega
          have hee : ((S2.length : Int) == (S2.length : Int)) = true := beq_self_eq_true _
          have HR : Hid (Hp w w6 (mapT 9 elM M W2.length c1 (lookL (nwL W2)) :: star (W2.map jT) :: keysT T (m : Int) S2 (i + 1) :: [])) := Lib.hid (H6.out.dropAt 2 rfl)
          clear H6
          go_wp2_with fail
          refine HL.out.mono ?_; rintro en w7 ⟨rfl, rfl⟩
          go_wp2_with fail
          refine HL.out.mono ?_; rintro en w7 ⟨rfl, rfl⟩
          go_wp2_with fail
          go_roundg (gk - 1)
          case measure => omega
          case rel => exact ⟨i + 1, c1, S2, W2, by go_num, by omega, by omega, HF2, HN2, HR⟩
        · have hlk := now_not H5.out (by rw [HN1.out.pl]; exact hin) HKN.out.1
          have hmm := @run_makeMap Try.prog
          have HIn := Lib.hid hin
          have hmid : Mid k S1 [] := ⟨hin, by unfold keysL; simp⟩
          have HMd := Lib.hid hmid
          have hi1000 : i ≤ 1000 := by omega
          rw [HS2.out] at H5 HF2
          clear hin hmid
          obtain ⟨WN, HWN⟩ : ∃ WN, Hid (W1 ++ [(k, (⟨[], w5.heap.size, 0⟩ : Nw))] = WN) := ⟨_, Lib.hid rfl⟩
          go_wp2_with (at_mapUpdate; refine now_new H5.out HN1.out HWN.out HIn.out HKN.out.1 hi1000 rfl _ _ _ rfl rfl rfl rfl rfl ?_)
          intro w6 h6
          generalize w5.heap.size = bb at HWN
          clear hmm hlk b1 b2 H5
          have b1 := (h6.pull 2 rfl).cell 1 rfl
          have b2 := (h6.pull 2 rfl).cell 2 rfl
          have hlk := Sp.Hp.mapLook (T := 48) h6 Try.underlying9 Try.underlying48 k HKN.out.1
          rw [show elM.enc ((lookL (nwL WN) k).getD elM.zero) = .map (some bb) by rw [← HWN.out]; exact now_look (r := ⟨[], bb, 0⟩) HMd.out HN1.out.pl (show plainN [] = [] from rfl)] at hlk
          have H6 := Lib.hid h6
          obtain ⟨W2, HW2⟩ : ∃ W2, Hid (W1 ++ (k, (⟨withI n [], bb, 0 + 1⟩ : Nw)) :: [] = W2) := ⟨_, Lib.hid rfl⟩
          have HN2 : Hid (NowI S2 W2 (i + 1) (c1 + 1)) := Lib.hid (by
            rw [← HW2.out]
            refine ⟨by rw [← HS2.out, add_new HIn.out, plainN_app, HN1.out.pl]; rfl, by have := HN1.out.c; omega, fun r hr => ?_⟩
            rcases List.mem_append.1 hr with hr | hr
            · have := HN1.out.cs r hr; omega
            · rw [List.mem_singleton.1 hr]; show 0 + 1 ≤ _; omega)
          have HWN2 : Hid (WN = W1 ++ (k, (⟨[], bb, 0⟩ : Nw)) :: []) := Lib.hid HWN.out.symm
          clear h6 HN1 HIn HMd HOK1 HWN
          go_wp2_with (at_mapUpdate; refine now_put H6.out HWN2.out HW2.out List.Pairwise.nil (by decide) HKN.out.2 rfl _ _ _ rfl rfl rfl rfl ?_)
          clear H6 hlk b1 b2
          intro w6 h6
          have H6 := Lib.hid h6
          clear h6
          have HSl : Hid (W2.length = S2.length) := Lib.hid HN2.out.len
          have HL := Lib.hid (len_calls (H6.out.pull 3 rfl) (Below.refl _ _))
          unfold ptr at HL
          have hln : ∀ ty, (Builtin.len_ #[48] ty #[.map (some M)]).run Try.prog w6 = .ok (.int .i64 S2.length) w6 := fun ty => by
            rw [← HSl.out]
            exact Sp.Hp.mapLen H6.out Try.underlying48 ty
          have hgt : ¬ ((m : Int) < (S2.length : Int)) := by have := HF2.out.2; omega
          have hee : ((S2.length : Int) == (S2.length : Int)) = true := beq_self_eq_true _
          have HR : Hid (Hp w w6 (mapT 9 elM M W2.length (c1 + 1) (lookL (nwL W2)) :: star (W2.map jT) :: keysT T (m : Int) S2 (i + 1) :: [])) := Lib.hid (H6.out.dropAt 2 rfl)
          clear H6
          go_wp2_with fail
          refine HL.out.mono ?_; rintro en w7 ⟨rfl, rfl⟩
          go_wp2_with fail
          refine HL.out.mono ?_; rintro en w7 ⟨rfl, rfl⟩
          go_wp2_with fail
          go_roundg (gk - 1)
          case measure => omega
          case rel => exact ⟨i + 1, c1 + 1, S2, W2, by go_num, by omega, by omega, HF2, HN2, HR⟩
      | true =>
        obtain ⟨hi0, hml, k0, i0, S1, hSe⟩ := full_parts hfb HM.out.2
        have er : roomR m k S = S1 := by unfold roomR; rw [hfb, hSe]; rfl
        have eg : goneR m k S = (k0, i0) := by unfold goneR; rw [hfb, hSe]; rfl
        have hok := HOK.out
        rw [hSe] at hok
        have hm0 : Mid k0 ([] : Rows) S1 := (show Ok ([] ++ (k0, i0) :: S1) from hok).mid
        have hk0 : k0.size ≤ maxLen := hok.ks _ (List.mem_cons_self ..)
        obtain ⟨bb, hlk, hln⟩ := now_head (A := []) (B := S1) (k := k0) (ids := i0) H5.out (HNw.out.pl.trans hSe) hm0 hk0
        have hee : ((i0.length : Int) == (i0.length : Int)) = true := beq_self_eq_true _
        rw [hfb, eg]
        rw [er] at H5 HF2
        have HSe := Lib.hid hSe
        have HK0 := Lib.hid hk0
        have HOK1 : Hid (Ok S1) := Lib.hid (by
          have := hok.sub (A := S1) (List.sublist_cons_self ..)
          exact this)
        clear hfb er eg hok hm0 hk0 hSe hi0 hml
        go_wp2_with (at_delete; refine now_del H5.out HNw.out HSe.out HOK.out HK0.out rfl _ _ rfl rfl rfl ?_)
        intro WT W1 HN1 h6
        generalize hc1 : c = c1 at HN1 h6
        clear hc1 H5 hlk hln HSe HK0
        have H5 := Lib.hid h6
        clear h6
        go_upto_region 15 with fail
        clear HF HNw HOK W S c
        have b1 := (H5.out.pull 2 rfl).cell 1 rfl
        have b2 := (H5.out.pull 2 rfl).cell 2 rfl
        have hql : ∀ W r, (binOp .eql 49 (.map r) (.map none)).run Try.prog W = .ok (.bool r.isNone) W := fun W r => run_eql_map_nil W 49 _ _ r Try.underlying49
        obtain ⟨S2, HS2⟩ : ∃ S2, Hid (addR k n S1 = S2) := ⟨_, Lib.hid rfl⟩
        by_cases hin : k ∈ keysL S1
        · obtain ⟨A, ids, B, hSe⟩ := key_split hin
          have hpl := HN1.out.pl
          rw [hSe] at hpl
          obtain ⟨LA, bb, cc, LB, hWe, hA, hB⟩ := plainN_mid hpl
          have hok := HOK1.out
          rw [hSe] at hok
          have hu : Up ids := hok.up (k, ids) (List.mem_append.2 (.inr (List.mem_cons_self ..)))
          have hcc : cc ≤ i := HN1.out.cs (k, ⟨ids, bb, cc⟩) (by rw [hWe]; exact List.mem_append.2 (.inr (List.mem_cons_self ..)))
          have hlk := Sp.Hp.mapLook (T := 48) H5.out Try.underlying9 Try.underlying48 k HKN.out.1
          rw [show elM.enc ((lookL (nwL W1) k).getD elM.zero) = .map (some bb) by rw [hWe]; exact now_look (r := ⟨ids, bb, cc⟩) hok.mid hA hB] at hlk
          have HN2 : Hid (NowI S2 (LA ++ (k, ⟨withI n ids, bb, cc + 1⟩) :: LB) (i + 1) c1) := Lib.hid ⟨by
              rw [← HS2.out, hSe, add_mid hok.mid, plainN_app, hA, ← hB]; rfl, by have := HN1.out.c; omega, fun r hr => by
              rcases List.mem_append.1 hr with hr | hr
              · have := HN1.out.cs r (by rw [hWe]; exact List.mem_append.2 (.inl hr)); omega
              · rcases List.mem_cons.1 hr with hr | hr
                · rw [hr]; show cc + 1 ≤ _; omega
                · have := HN1.out.cs r (by rw [hWe]; exact List.mem_append.2 (.inr (List.mem_cons_of_mem _ hr))); omega⟩
          rw [HS2.out] at H5 HF2
          have HU := Lib.hid hu
          have HWe := Lib.hid hWe
          have hcc2 : cc ≤ 1000 := by omega
          obtain ⟨W2, HW2⟩ : ∃ W2, Hid (LA ++ (k, (⟨withI n ids, bb, cc + 1⟩ : Nw)) :: LB = W2) := ⟨_, Lib.hid rfl⟩
          rw [HW2.out] at HN2
          clear hin hSe hpl hok hWe hA hB hu HN1 HOK1
          go_wp2_with (at_mapUpdate; refine now_put H5.out HWe.out HW2.out HU.out hcc2 HKN.out.2 rfl _ _ _ rfl rfl rfl rfl ?_)
          intro w6 h6
          have H6 := Lib.hid h6
          clear h6 H5 hlk b1 b2
          have HSl : Hid (W2.length = S2.length) := Lib.hid HN2.out.len
          have HL := Lib.hid (len_calls (H6.out.pull 3 rfl) (Below.refl _ _))
          unfold ptr at HL
          have hln : ∀ ty, (Builtin.len_ #[48] ty #[.map (some M)]).run Try.prog w6 = .ok (.int .i64 S2.length) w6 := fun ty => by
            rw [← HSl.out]
            exact Sp.Hp.mapLen H6.out Try.underlying48 ty
          have hgt : ¬ ((m : Int) < (S2.length : Int)) := by have := HF2.out.2; omega
          have hee : ((S2.length : Int) == (S2.length : Int)) = true := beq_self_eq_true _
          have HR : Hid (Hp w w6 (mapT 9 elM M W2.length c1 (lookL (nwL W2)) :: star (W2.map jT) :: keysT T (m : Int) S2 (i + 1) :: [])) := Lib.hid (H6.out.dropAt 2 rfl)
          clear H6
          go_wp2_with fail
          refine HL.out.mono ?_; rintro en w7 ⟨rfl, rfl⟩
          go_wp2_with fail
          refine HL.out.mono ?_; rintro en w7 ⟨rfl, rfl⟩
          go_wp2_with fail
          go_roundg (gk - 1)
          case measure => omega
          case rel => exact ⟨i + 1, c1, S2, W2, by go_num, by omega, by omega, HF2, HN2, HR⟩
        · have hlk := now_not H5.out (by rw [HN1.out.pl]; exact hin) HKN.out.1
          have hmm := @run_makeMap Try.prog
          have HIn := Lib.hid hin
          have hmid : Mid k S1 [] := ⟨hin, by unfold keysL; simp⟩
          have HMd := Lib.hid hmid
          have hi1000 : i ≤ 1000 := by omega
          rw [HS2.out] at H5 HF2
          clear hin hmid
          obtain ⟨WN, HWN⟩ : ∃ WN, Hid (W1 ++ [(k, (⟨[], WT.heap.size, 0⟩ : Nw))] = WN) := ⟨_, Lib.hid rfl⟩
          go_wp2_with (at_mapUpdate; refine now_new H5.out HN1.out HWN.out HIn.out HKN.out.1 hi1000 rfl _ _ _ rfl rfl rfl rfl rfl ?_)
          intro w6 h6
          generalize WT.heap.size = bb at HWN
          clear hmm hlk b1 b2 H5
          have b1 := (h6.pull 2 rfl).cell 1 rfl
          have b2 := (h6.pull 2 rfl).cell 2 rfl
          have hlk := Sp.Hp.mapLook (T := 48) h6 Try.underlying9 Try.underlying48 k HKN.out.1
          rw [show elM.enc ((lookL (nwL WN) k).getD elM.zero) = .map (some bb) by rw [← HWN.out]; exact now_look (r := ⟨[], bb, 0⟩) HMd.out HN1.out.pl (show plainN [] = [] from rfl)] at hlk
          have H6 := Lib.hid h6
          obtain ⟨W2, HW2⟩ : ∃ W2, Hid (W1 ++ (k, (⟨withI n [], bb, 0 + 1⟩ : Nw)) :: [] = W2) := ⟨_, Lib.hid rfl⟩
          have HN2 : Hid (NowI S2 W2 (i + 1) (c1 + 1)) := Lib.hid (by
            rw [← HW2.out]
            refine ⟨by rw [← HS2.out, add_new HIn.out, plainN_app, HN1.out.pl]; rfl, by have := HN1.out.c; omega, fun r hr => ?_⟩
            rcases List.mem_append.1 hr with hr | hr
            · have := HN1.out.cs r hr; omega
            · rw [List.mem_singleton.1 hr]; show 0 + 1 ≤ _; omega)
          have HWN2 : Hid (WN = W1 ++ (k, (⟨[], bb, 0⟩ : Nw)) :: []) := Lib.hid HWN.out.symm
          clear h6 HN1 HIn HMd HOK1 HWN
          go_wp2_with (at_mapUpdate; refine now_put H6.out HWN2.out HW2.out List.Pairwise.nil (by decide) HKN.out.2 rfl _ _ _ rfl rfl rfl rfl ?_)
          clear H6 hlk b1 b2
          intro w6 h6
          have H6 := Lib.hid h6
          clear h6
          have HSl : Hid (W2.length = S2.length) := Lib.hid HN2.out.len
          have HL := Lib.hid (len_calls (H6.out.pull 3 rfl) (Below.refl _ _))
          unfold ptr at HL
          have hln : ∀ ty, (Builtin.len_ #[48] ty #[.map (some M)]).run Try.prog w6 = .ok (.int .i64 S2.length) w6 := fun ty => by
            rw [← HSl.out]
            exact Sp.Hp.mapLen H6.out Try.underlying48 ty
          have hgt : ¬ ((m : Int) < (S2.length : Int)) := by have := HF2.out.2; omega
          have hee : ((S2.length : Int) == (S2.length : Int)) = true := beq_self_eq_true _
          have HR : Hid (Hp w w6 (mapT 9 elM M W2.length (c1 + 1) (lookL (nwL W2)) :: star (W2.map jT) :: keysT T (m : Int) S2 (i + 1) :: [])) := Lib.hid (H6.out.dropAt 2 rfl)
          clear H6
          go_wp2_with fail
          refine HL.out.mono ?_; rintro en w7 ⟨rfl, rfl⟩
          go_wp2_with fail
          refine HL.out.mono ?_; rintro en w7 ⟨rfl, rfl⟩
          go_wp2_with fail
          go_roundg (gk - 1)
          case measure => omega
          case rel => exact ⟨i + 1, c1 + 1, S2, W2, by go_num, by omega, by omega, HF2, HN2, HR⟩
    case neg =>
      have hic : ¬ ((i : Int) < (L.length : Int)) := by omega
      obtain rfl : i = L.length := by omega
      have HOK := Lib.hid (keys_ok (HH.out.pull 2 rfl))
      have hs60 : S.length ≤ 60 := by have := HF.out.1.s; omega
      have HDr := Lib.hid (drop_calls (HH.out.pull 2 rfl) (Below.refl _ _) (by omega) (fun r hr => Nat.le_trans (HF.out.1.r r hr) (by omega)) (by omega) x2)
      have HLk : Hid (∀ k l, lookL (redR x2 S) k = some l → idsR k (dropR x2 S) = l) := Lib.hid (fun k l h => leave_look HOK.out x2 h)
      have HFd : Hid (∀ k, (idsR k (dropR x2 S)).length ≤ 60) := Lib.hid (fun k => by have := (HF.out.1.drop x2).ids k; omega)
      have HI0 : Hid (nwL W = nwL W ∧ redR x2 (plainN W) = redR x2 S ∧ ∀ r ∈ W, Up r.2.ids) := Lib.hid ⟨rfl, by rw [HNw.out.pl], fun r hr => HOK.out.up (r.1, r.2.ids) (by rw [← HNw.out.pl]; exact List.mem_map_of_mem (f := fun r : ByteArray × Nw => (r.1, r.2.ids)) hr)⟩
      obtain ⟨NN, HNN⟩ : ∃ NN, Hid (L.length + S.length = NN) := ⟨_, Lib.hid rfl⟩
      rw [HNN.out] at HDr
      have hwl : W.length ≤ 60 := by have := HNw.out.len; omega
      unfold ptr at HDr
      clear HH HNw
      generalize ((S.length : Int) - ((dropR x2 S).length : Int)) = dz at *
      generalize dropR x2 S = SD at *
      go_wp2_with fail
      refine HDr.out.mono ?_; rintro en w5 ⟨rfl, h5⟩
      have H5 : Hid (Hp w w5 (mapT 9 elM M W.length c (lookL (nwL W)) :: star (W.map jT) :: keysT T (m : Int) SD NN :: [])) := Lib.hid (h5.sel [1, 2] rfl)
      clear h5 HDr
      obtain ⟨GN, hGN⟩ : ∃ GN, Hid (lookL (nwL W) = GN) := ⟨_, Lib.hid rfl⟩
      rw [hGN.out] at H5
      go_wp2_with (at_range; refine Sp.Hp.mapRange H5.out rfl _ 48 rfl Try.underlying9 Try.underlying48 rfl ?_; intro w0 h0 hs0)
      try go_frame
      have H0 : Hid (Hp w w0 (rngT 9 elM M w5.heap.size W.length c GN W.length :: star (W.map jT) :: keysT T (m : Int) SD NN :: [])) := Lib.hid h0
      clear h0 hs0 H5
      generalize w5.heap.size = rr at *
      go_loopg [15] (W.length + 1) (fun g _ wr => ∃ (cnt : Nat) (W' : Nl), cnt ≤ g ∧ Hid (nwL W' = nwL W ∧ redR x2 (plainN W') = redR x2 S ∧ ∀ r ∈ W', Up r.2.ids) ∧ Hid (Hp w wr (rngT 9 elM M rr W.length c GN cnt :: star (W'.map jT) :: keysT T (m : Int) SD NN :: [])))
      case atStart => exact ⟨W.length, W, by omega, Lib.hid ⟨rfl, HI0.out.2⟩, H0⟩
      case round =>
        obtain ⟨cnt, W', hcg, HI', HH⟩ := hrel
        clear H0 HI0
        go_wp2_with (at_next; refine Sp.Hp.rngNext HH.out rfl _ rfl Try.underlying9 rfl ?_ ?_)
        · go_wp2_with fail
          go_ret
          exact ⟨rfl, HH.out.below⟩
        · intro k x w6 cnt' hgk hks hlt h6 hen
          rw [← hGN.out, ← HI'.out.1] at hgk
          obtain ⟨LA, ids, bb, cc, LB, hWe, rfl, hkA⟩ := now_find hgk
          have hu : Up ids := HI'.out.2.2 (k, ⟨ids, bb, cc⟩) (by rw [hWe]; exact List.mem_append.2 (.inr (List.mem_cons_self ..)))
          have hid : idsR k SD = lessI x2 ids := HLk.out k _ (by rw [← HI'.out.2.1, hWe]; exact red_find hkA x2)
          have hl60 : (lessI x2 ids).length ≤ 60 := by rw [← hid]; exact HFd.out k
          have HI2 : Hid (nwL (LA ++ (k, ⟨lessI x2 ids, bb, cc⟩) :: LB) = nwL W ∧ redR x2 (plainN (LA ++ (k, ⟨lessI x2 ids, bb, cc⟩) :: LB)) = redR x2 S ∧ ∀ r ∈ LA ++ (k, ⟨lessI x2 ids, bb, cc⟩) :: LB, Up r.2.ids) := Lib.hid (by
            have h1 := HI'.out
            rw [hWe] at h1
            refine ⟨by rw [← h1.1, nwL_mid, nwL_mid], ?_, fun r hr => ?_⟩
            · rw [← h1.2.1, plainN_app, plainN_app, redR_app, redR_app]
              congr 1
              unfold plainN redR
              rw [List.map_cons, List.map_cons, List.map_cons, List.map_cons]
              show (k, lessI x2 (lessI x2 ids)) :: _ = (k, lessI x2 ids) :: _
              rw [less_twice]
            · rcases List.mem_append.1 hr with hr | hr
              · exact h1.2.2 r (List.mem_append.2 (.inl hr))
              · rcases List.mem_cons.1 hr with hr | hr
                · rw [hr]; exact up_less hu
                · exact h1.2.2 r (List.mem_append.2 (.inr (List.mem_cons_of_mem _ hr))))
          rw [hWe] at h6
          have H6 : Hid (Hp w w6 (jT (k, ⟨ids, bb, cc⟩) :: star ((LA ++ LB).map jT) :: rngT 9 elM M rr W.length c GN cnt' :: keysT T (m : Int) SD NN :: [])) := Lib.hid (jmid (h6.pull 1 rfl))
          rw [show elM.enc (some bb) = Value.map (some bb) from rfl] at hen ⊢
          have HKs := Lib.hid hks
          have HU := Lib.hid hu
          have HId := Lib.hid hid
          obtain ⟨W2, HW2⟩ : ∃ W2, Hid (LA ++ (k, (⟨lessI x2 ids, bb, cc⟩ : Nw)) :: LB = W2) := ⟨_, Lib.hid rfl⟩
          have HBk : Hid (∀ W', Hp w W' (jT (k, ⟨lessI x2 ids, bb, cc⟩) :: star ((LA ++ LB).map jT) :: rngT 9 elM M rr W.length c GN cnt' :: keysT T (m : Int) SD NN :: []) → Hp w W' (rngT 9 elM M rr W.length c GN cnt' :: star (W2.map jT) :: keysT T (m : Int) SD NN :: [])) := Lib.hid (fun W' hh => by
            rw [← HW2.out]
            exact (jback hh).swap)
          rw [HW2.out] at HI2
          clear hWe hkA hu hid h6 hgk hks HH
          obtain ⟨SK, hSK⟩ : ∃ SK, Hid ((LA ++ LB).map jT = SK) := ⟨_, Lib.hid rfl⟩
          rw [hSK.out] at H6 HBk
          go_wp2_with (at_delete; refine Sp.Hp.jmapDel H6.out rfl _ _ 49 _ rfl rfl Try.underlying3 Try.underlying49 rfl x2 rfl HWx.out (lessI x2 ids).length (del_count HU.out x2) ?_)
          intro w7 h7
          rw [has_del] at h7
          have H7 : Hid (Hp w w7 (jT (k, ⟨lessI x2 ids, bb, cc⟩) :: star SK :: rngT 9 elM M rr W.length c GN cnt' :: keysT T (m : Int) SD NN :: [])) := Lib.hid h7
          have HIdc := Lib.hid (ids_calls (k := k) (H7.out.pull 3 rfl) (Below.refl _ _) HKs.out (by have := HFd.out k; omega))
          rw [HId.out] at HIdc
          unfold ptr at HIdc
          clear h7 H6 hen
          go_wp2_with fail
          refine HIdc.out.mono ?_; rintro en w8 ⟨v8, rfl, h8⟩
          obtain ⟨a8, c8, rfl, -, -⟩ := rowI_slice h8
          have H8 : Hid (Hp w w8 (jT (k, ⟨lessI x2 ids, bb, cc⟩) :: star SK :: rngT 9 elM M rr W.length c GN cnt' :: keysT T (m : Int) SD NN :: [])) := Lib.hid (h8.sel [2, 3, 4, 1] rfl |>.dropAt 4 rfl)
          have hln : ∀ ty, (Builtin.len_ #[49] ty #[.map (some bb)]).run Try.prog w8 = .ok (.int .i64 (lessI x2 ids).length) w8 := fun ty => Sp.Hp.jmapLen H8.out Try.underlying49 ty
          have hee : (((lessI x2 ids).length : Int) == ((lessI x2 ids).length : Int)) = true := beq_self_eq_true _
          have H9 := Lib.hid (HBk.out _ H8.out)
          clear h8 H8 HIdc H7
          go_wp2_with fail
          go_roundg (gk - 1)
          case measure => omega
          case rel => exact ⟨cnt', W2, by omega, HI2, H9⟩
end Go.Proofs.Ytkpcobaklbfpcaa.Ka
