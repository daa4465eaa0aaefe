/- KeysLeave. No condition. -/
import Derived.Test.YtkpcobaklbfpcaaKt1
import Derived.Test.YtkpcobaklbfpcaaKs1
namespace Go.Proofs.Ytkpcobaklbfpcaa.Ka
set_option linter.unusedVariables false
set_option linter.unusedSimpArgs false
open Go.ChangeShapes Go.WideShapes Go.ChangeAt Go.RowKit Go.Maps Go.WideMaps
open Sp (Th Hp Stays All Ro roT cellsT rowT exT puT star mapT setG Sl rngL)
set_option maxHeartbeats 64000000 in
set_option maxRecDepth 100000 in
theorem keysLeave (xa : Option Addr) (xc : Nat) (L : List Ac) (x1 : Int) (w : World) (hI : InA w xa L) (hS : ∀ i (h : i < L.length), okAc L[i]) :
    Calls Try.prog 5 #[.slice xa L.length xc, .int .i64 x1] w fun e w' => e = .returned (.bool true) ∧ Below w.heap.size w w' := by
  have HI := Lib.hid hI
  have HSZ := Lib.hid hS
  clear hI hS
  have HA := Lib.hid (keysAlive w)
  go_enter Try.func5, Try.ntmps5
  go_wp2_with fail
  refine HA.out.mono ?_; rintro en w2 ⟨rfl, hb2⟩
  have HB2 := Lib.hid hb2
  clear hb2 HA
  by_cases hl : 60 < L.length
  · have hlc : (60 : Int) < (L.length : Int) := by omega
    go_wp2_with fail
    go_ret
    exact ⟨rfl, HB2.out⟩
  have hlc : ¬ (60 : Int) < (L.length : Int) := by omega
  have HN := Lib.hid (new_calls (Hp.nil HB2.out) (Below.refl _ _) 1000)
  have e2 : max (1000 : Int) 1 = ((1000 : Nat) : Int) := by decide
  rw [e2] at HN
  unfold ptr at HN
  go_wp2_with fail
  refine HN.out.mono ?_; rintro en w3 ⟨T, rfl, h3⟩
  have H3 := Lib.hid h3
  clear h3 HN
  go_wp2_with fail
  go_loopg [29] (L.length + 1) (fun g vi wr => ∃ (i : Nat) (S : Rows), vi = .int .i64 i ∧ i ≤ L.length ∧ L.length - i ≤ g ∧ Hid (Few i S) ∧ Hid (From L 0 S) ∧ Hid (Hp w wr [keysT T ((1000 : Nat) : Int) S i]))
  case atStart => exact ⟨0, [], rfl, by omega, by omega, Lib.hid (Few.nil 0), Lib.hid (From.nil L 0), H3⟩
  case round =>
    obtain ⟨i, S, rfl, hi, hg, HF, HFr, HH⟩ := hrel
    clear H3
    by_cases hil : i < L.length
    case pos =>
      have hic : (i : Int) < (L.length : Int) := by omega
      obtain ⟨b, o, rfl, hlt, hcs⟩ := HI.out (by omega)
      obtain ⟨c0, c1, c2⟩ := hcs i hil
      have e : ∀ j, wr.cell? ⟨b, j, none⟩ = w.cell? ⟨b, j, none⟩ := fun j => HH.out.below.cell (p := ⟨b, j, none⟩) hlt
      rw [← e] at c0 c1 c2
      obtain ⟨hk, hn⟩ := HSZ.out i hil
      have hok := keys_ok HH.out
      have HX : Hid (Hp w (wr.alloc (.cells #[.int .i64 L[i].kd, .int .i64 L[i].n, .string L[i].k] 29)) (keysT T ((1000 : Nat) : Int) S i :: [])) := Lib.hid (HH.out.bel (Sp.bbox _))
      have HA1 := Lib.hid (add_calls HX.out (Below.refl _ _) hk (by decide) (by have := HF.out.s; omega) (fun r hr => Nat.le_trans (HF.out.r r hr) (by omega)) (by omega) L[i].n hn)
      have HF2 : Hid (Few (i + 1) (addR L[i].k L[i].n (roomR 1000 L[i].k S))) := Lib.hid ((HF.out.sub (room_sub 1000 L[i].k S)).add (fun r hr => hok.up r ((room_sub 1000 L[i].k S).subset hr)) _ _)
      have HFr2 : Hid (From L 0 (addR L[i].k L[i].n (roomR 1000 L[i].k S))) := Lib.hid ((HFr.out.sub (room_sub 1000 L[i].k S)).add L[i].k hil)
      unfold ptr at HA1
      clear hcs hlt e hk hn hok HH HX
      generalize addR L[i].k L[i].n (roomR 1000 L[i].k S) = S2 at *
      generalize (goneR 1000 L[i].k S).1 = gq at *
      generalize (goneR 1000 L[i].k S).2 = gi at *
      generalize fullR 1000 L[i].k S = fb at *
      generalize L[i] = q at *
      go_wp2_with fail
      refine HA1.out.mono ?_; rintro en w5 ⟨v5, rfl, h5⟩
      have H5 := Lib.hid (h5.dropAt 0 rfl)
      clear h5 HA1 c0 c1 c2
      go_wp2_with fail
      go_roundg (gk - 1)
      case measure => omega
      case rel => exact ⟨i + 1, S2, by go_num, by omega, by omega, HF2, HFr2, H5⟩
    case neg =>
      have hic : ¬ ((i : Int) < (L.length : Int)) := by omega
      obtain rfl : i = L.length := by omega
      have hmm := @run_makeMap Try.prog
      have HM0 := Lib.hid (HH.out.mapNew 9 elS)
      have HAl := Lib.hid (all_calls (HM0.out.pull 1 rfl) (Below.refl _ _) (by have := HF.out.s; omega))
      have HSl : Hid (S.length ≤ 60 ∧ ∀ k, (idsR k S).length ≤ 60) := Lib.hid ⟨by have := HF.out.s; omega, fun k => by have := HF.out.ids k; omega⟩
      have HOK := Lib.hid (keys_ok HH.out)
      have HF6 : Hid (Few 60 S) := Lib.hid (HF.out.mono (by omega))
      unfold ptr at HAl
      clear HH HF
      go_wp2_with fail
      clear hmm
      refine HAl.out.mono ?_; rintro en w4 ⟨v4, rfl, hR4⟩
      have h4 := HM0.out.rowAdd hR4.bel hR4.row (Nat.le_refl _)
      have h4 : Hp w w4 (rowS v4 (keysL S) :: mapT 9 elS wr.heap.size 0 0 (fun _ => none) :: keysT T ((1000 : Nat) : Int) S L.length :: []) := h4
      obtain ⟨a4, c4, rfl, -⟩ := rowS_slice h4
      generalize wr.heap.size = M at *
      have hkl : (keysL S).length = S.length := keys_len S
      have H4 : Hid (Hp w w4 [mapT 9 elS M 0 0 (lookL (slL [])), keysT T ((1000 : Nat) : Int) S L.length, rowT 9 1 (.slice a4 S.length c4) S.length (Ca.cellsT (keysL S)), star []]) := Lib.hid (by
        unfold rowS at h4
        rw [hkl] at h4
        exact (h4.starNil).sel [2, 3, 1] rfl)
      have hs60 : S.length ≤ 60 := HSl.out.1
      have HKat : Hid (∀ j (hj : j < S.length), (keysL S)[j]? = some S[j].1 ∧ S[j].1.size ≤ maxLen) := Lib.hid (fun j hj => ⟨by unfold keysL; rw [List.getElem?_map, List.getElem?_eq_getElem hj]; rfl, HOK.out.ks _ (List.getElem_mem hj)⟩)
      rw [hkl]
      clear h4 hR4 HAl HM0 hkl
      go_wp2_with fail
      go_loopg [44] (S.length + 1) (fun g vi wr => ∃ (j : Nat) (W : Kl), vi = .int .i64 j ∧ j ≤ S.length ∧ S.length - j ≤ g ∧ Hid (plain W = S.take j) ∧ Hid (Hp w wr [mapT 9 elS M j j (lookL (slL W)), keysT T ((1000 : Nat) : Int) S L.length, rowT 9 1 (.slice a4 S.length c4) S.length (Ca.cellsT (keysL S)), star (W.map rowK)]))
      case atStart => exact ⟨0, [], rfl, by omega, by omega, Lib.hid rfl, H4⟩
      case round =>
        obtain ⟨j, W, rfl, hj, hg, HW, HH⟩ := hrel
        clear H4
        by_cases hjl : j < S.length
        case pos =>
          have hjc : (j : Int) < (S.length : Int) := by omega
          obtain ⟨e1, hks⟩ := HKat.out j hjl
          obtain ⟨a4', c4', ea, -, -, hga⟩ := (HH.out.pull 2 rfl).rowForm
          obtain ⟨g4, hg4⟩ := hga (by omega)
          injection ea with ea1 _ ea3
          subst ea1
          subst ea3
          subst hg4
          have d0 := Sp.Hp.rowCell (HH.out.pull 2 rfl) (j := j) (by omega)
          have e2 : (Ca.cellsT (keysL S))[j]? = some (.string S[j].1) := by
            unfold Ca.cellsT
            rw [List.getElem?_map, e1]; rfl
          rw [e2] at d0
          have hid : idsR S[j].1 S = S[j].2 := by
            have hsp := split_at S hjl
            have hm : Mid S[j].1 (S.take j) (S.drop (j + 1)) := mid_of (x := S[j].2) (by rw [← hsp]; exact HOK.out.nd)
            conv => lhs; arg 2; rw [hsp]
            exact ids_mid hm
          have hne : S[j].2 ≠ [] := HOK.out.ne _ (List.getElem_mem hjl)
          have hkW : S[j].1 ∉ keysL (slL W) := by
            rw [plain_keys, HW.out]
            have hsp := split_at S hjl
            have hm : Mid S[j].1 (S.take j) (S.drop (j + 1)) := mid_of (x := S[j].2) (by rw [← hsp]; exact HOK.out.nd)
            exact hm.a
          have HId := Lib.hid (ids_calls (k := S[j].1) (HH.out.pull 1 rfl) (Below.refl _ _) hks (by have := HSl.out.2 S[j].1; omega))
          rw [hid] at HId
          have HN2 : Hid (j + (if (lookL (slL W) S[j].1).isSome = true then 0 else 1) = j + 1) := Lib.hid (by rw [look_none hkW]; rfl)
          have HSet : Hid (∀ z : Kw, setG (lookL (slL W)) S[j].1 (some (slK z)) = lookL (slL (W ++ [(S[j].1, z)]))) := Lib.hid (fun z => by
            rw [set_new hkW]
            unfold slL
            rw [List.map_append]; rfl)
          have HW2 : Hid (∀ z : Kw, z.ids = S[j].2 → plain (W ++ [(S[j].1, z)]) = S.take (j + 1)) := Lib.hid (fun z hz => by
            rw [plain_app, HW.out, ← List.take_append_getElem hjl]
            unfold plain
            rw [List.map_cons, hz]; rfl)
          have HKs := Lib.hid hks
          have HNe := Lib.hid hne
          unfold ptr at HId
          clear hid hne hkW e1 e2 hks hga HH HW
          generalize S[j] = r at *
          obtain ⟨k, ids⟩ := r
          simp only at d0 HId HN2 HSet HW2 HKs HNe
          go_wp2_with fail
          refine HId.out.mono ?_; rintro en w5 ⟨v5, rfl, h5⟩
          obtain ⟨g5, c5, rfl, -⟩ : ∃ g c, v5 = .slice (some ⟨g, 0, none⟩) ids.length c ∧ True := by
            rcases rowI_form h5 with ⟨-, e⟩ | ⟨g, c, e, -⟩
            · exact absurd e HNe.out
            · exact ⟨g, c, e, True.intro⟩
          have H5 : Hid (Hp w w5 (mapT 9 elS M j j (lookL (slL W)) :: rowI (.slice (some ⟨g5, 0, none⟩) ids.length c5) ids :: keysT T ((1000 : Nat) : Int) S L.length :: rowT 9 1 (.slice (some ⟨g4, 0, none⟩) S.length c4) S.length (Ca.cellsT (keysL S)) :: star (W.map rowK) :: [])) := Lib.hid (h5.sel [2, 0, 1] rfl)
          clear h5 HId
          go_wp2_with (at_mapUpdate; refine Sp.Hp.mapPut H5.out rfl _ _ _ 51 rfl Try.underlying9 Try.underlying51 rfl k rfl HKs.out ⟨some ⟨g5, 0, none⟩, ids.length, c5⟩ rfl True.intro (by unfold maxLen; omega) (j + 1) HN2.out ?_)
          intro w6 h6
          have h7 : Hp w w6 (mapT 9 elS M (j + 1) (j + 1) (lookL (slL (W ++ [(k, (⟨ids, g5, c5⟩ : Kw))]))) :: keysT T ((1000 : Nat) : Int) S L.length :: rowT 9 1 (.slice (some ⟨g4, 0, none⟩) S.length c4) S.length (Ca.cellsT (keysL S)) :: star ((W ++ [(k, (⟨ids, g5, c5⟩ : Kw))]).map rowK) :: []) := by
            rw [show (some (⟨some ⟨g5, 0, none⟩, ids.length, c5⟩ : Sl)) = some (slK ⟨ids, g5, c5⟩) from rfl, HSet.out ⟨ids, g5, c5⟩] at h6
            have h8 := Sp.Hp.starEnd (t := rowK (k, ⟨ids, g5, c5⟩)) (h6.sel [1, 4] rfl)
            rw [List.map_append]
            exact h8.sel [1, 2, 3] rfl
          have H7 := Lib.hid h7
          have HW3 := Lib.hid (HW2.out ⟨ids, g5, c5⟩ rfl)
          clear h6 h7 H5 HN2 HSet HW2
          generalize W ++ [(k, (⟨ids, g5, c5⟩ : Kw))] = W' at *
          go_wp2_with fail
          go_roundg (gk - 1)
          case measure => omega
          case rel => exact ⟨j + 1, W', by go_num, by omega, by omega, HW3, H7⟩
        case neg =>
          have hjc : ¬ ((j : Int) < (S.length : Int)) := by omega
          obtain rfl : j = S.length := by omega
          rw [List.take_length] at HW
          have HDr := Lib.hid (drop_calls (HH.out.pull 1 rfl) (Below.refl _ _) (by omega) (fun r hr => Nat.le_trans (HF6.out.r r hr) (by decide)) (by omega) x1)
          unfold ptr at HDr
          clear HH
          have hdl := drop_len x1 S
          have HSD : Hid (dropR x1 S = dropR x1 S) := Lib.hid rfl
          go_wp2_with fail
          refine HDr.out.mono ?_; rintro en w5 ⟨rfl, h5⟩
          have H5 : Hid (Hp w w5 (mapT 9 elS M S.length S.length (lookL (slL W)) :: keysT T ((1000 : Nat) : Int) (dropR x1 S) (L.length + S.length) :: star (W.map rowK) :: [])) := Lib.hid ((h5.dropAt 2 rfl).swap)
          clear h5 HDr
          have HWl : Hid (∀ k x, lookL (slL W) k = some x → ∃ A ids B LA g c LB, S = A ++ (k, ids) :: B ∧ W = LA ++ (k, ⟨ids, g, c⟩) :: LB ∧ plain LA = A ∧ plain LB = B ∧ x = slK ⟨ids, g, c⟩) := Lib.hid (fun k x hx => by
            have hk : k ∈ keysL S := by
              refine Classical.byContradiction fun hn => ?_
              rw [look_none (by rw [plain_keys, HW.out]; exact hn)] at hx
              cases hx
            obtain ⟨A, ids, B, hSe⟩ := key_split hk
            obtain ⟨LA, g, c, LB, hWe, hA, hB⟩ := plain_mid (HW.out.trans hSe)
            have hm : Mid k A B := mid_of (x := ids) (by rw [← hSe]; exact HOK.out.nd)
            rw [hWe, slL_app, look_mid (mid_sl hm hA hB)] at hx
            exact ⟨A, ids, B, LA, g, c, LB, hSe, hWe, hA, hB, (Option.some.inj hx).symm⟩)
          have HSt : Hid (∀ k ∈ keysL S, (lookL (slL W) k).isSome = true) := Lib.hid (fun k hk => by
            obtain ⟨A, ids, B, hSe⟩ := key_split hk
            obtain ⟨LA, g, c, LB, hWe, hA, hB⟩ := plain_mid (HW.out.trans hSe)
            have hm : Mid k A B := mid_of (x := ids) (by rw [← hSe]; exact HOK.out.nd)
            rw [hWe, slL_app, look_mid (mid_sl hm hA hB)]; rfl)
          have HIl : Hid (∀ k ids, (∃ A B, S = A ++ (k, ids) :: B) → idsR k (dropR x1 S) = lessI x1 ids ∧ ids.length ≤ 60) := Lib.hid (fun k ids ⟨A, B, e⟩ => by
            have h1 := HOK.out
            rw [e] at h1
            refine ⟨by rw [e]; exact leave_ids h1 x1, HF6.out.r (k, ids) (by rw [e]; exact List.mem_append.2 (.inr (List.mem_cons_self ..)))⟩)
          have HAs : Hid (∀ k ids (lf : ByteArray → Bool), (∃ A B, S = A ++ (k, ids) :: B) → lf k = true → aloneN x1 (fun z => lf z && !decide (z = k)) S = aloneN x1 lf S + (if lessI x1 ids = [] then 1 else 0)) := Lib.hid (fun k ids lf ⟨A, B, e⟩ hk => by
            have h1 := HOK.out
            rw [e] at h1 ⊢
            exact alone_step h1.mid hk)
          have HAe : Hid (∀ lf : ByteArray → Bool, (∀ k, lf k = false) → aloneN x1 lf S + (dropR x1 S).length = S.length) := Lib.hid (fun lf h => alone_end x1 S lf h)
          have HAle : Hid (∀ lf : ByteArray → Bool, aloneN x1 lf S ≤ 60) := Lib.hid (fun lf => Nat.le_trans (alone_le x1 S lf) hs60)
          have HA0 : Hid (aloneN x1 (fun k => (lookL (slL W) k).isSome) S = 0) := Lib.hid (alone_start x1 S _ HSt.out)
          have HD60 : Hid (Few 60 (dropR x1 S) ∧ From L 0 (dropR x1 S)) := Lib.hid ⟨HF6.out.drop x1, HFr.out.drop x1⟩
          obtain ⟨NN, HNN⟩ : ∃ NN, Hid (L.length + S.length = NN) := ⟨_, Lib.hid rfl⟩
          have hNN : NN ≤ 120 := by have := HNN.out; omega
          rw [HNN.out] at H5
          clear HSt HW HOK HF6 HFr HSD HKat HSl
          obtain ⟨sd, hsd⟩ : ∃ sd : Nat, Hid ((dropR x1 S).length = sd) := ⟨_, Lib.hid rfl⟩
          rw [hsd.out] at HAe hdl ⊢
          generalize dropR x1 S = SD at *
          generalize lookL (slL W) = GW at *
          go_wp2_with (at_range; refine Sp.Hp.mapRangeL H5.out rfl _ 51 rfl Try.underlying9 Try.underlying51 rfl ?_; intro w0 h0 hs0)
          try go_frame
          have H0 : Hid (Hp w w0 (rngL 9 elS M w5.heap.size S.length S.length GW (fun k => (GW k).isSome) S.length :: keysT T ((1000 : Nat) : Int) SD NN :: star (W.map rowK) :: [])) := Lib.hid h0
          clear h0 hs0 H5
          generalize w5.heap.size = rr at *
          go_loopg [12] (S.length + 1) (fun g v12 wr => ∃ (cnt : Nat) (lf : ByteArray → Bool), cnt ≤ g ∧ v12 = .int .i64 (aloneN x1 lf S : Nat) ∧ Hid (Hp w wr [rngL 9 elS M rr S.length S.length GW lf cnt, keysT T ((1000 : Nat) : Int) SD NN, star (W.map rowK)]))
          case atStart => exact ⟨S.length, fun k => (GW k).isSome, by omega, by rw [HA0.out]; rfl, H0⟩
          case round =>
            obtain ⟨cnt, lf, hcg, rfl, HH⟩ := hrel
            clear H0 HA0
            go_wp2_with (at_next; refine Sp.Hp.rngNextL HH.out rfl _ rfl Try.underlying9 rfl ?_ ?_)
            · intro hz
              have HE := Lib.hid (HAe.out lf hz)
              have HK := Lib.hid ((HH.out.dropAt 0 rfl).dropAt 1 rfl)
              clear hz HAe HAs HAle HIl HWl HH
              generalize aloneN x1 lf S = al at *
              go_wp2_with fail
              go_loopg [93] (L.length + 1) (fun g vi wr => ∃ (j N : Nat) (Sj : Rows), vi = .int .i64 j ∧ j ≤ L.length ∧ L.length - j ≤ g ∧ N ≤ 120 + 60 * j ∧ Hid (Few 60 Sj) ∧ Hid (From L j Sj) ∧ Hid (Hp w wr [keysT T ((1000 : Nat) : Int) Sj N]))
              case atStart => exact ⟨0, NN, SD, rfl, by omega, by omega, by omega, Lib.hid HD60.out.1, Lib.hid HD60.out.2, HK⟩
              case round =>
                obtain ⟨j, N, Sj, rfl, hj, hg, hN, HFj, HFr, HKj⟩ := hrel
                clear HK HD60
                by_cases hjl : j < L.length
                case pos =>
                  have hjc : (j : Int) < (L.length : Int) := by omega
                  obtain ⟨b, o, rfl, hlt, hcs⟩ := HI.out (by omega)
                  obtain ⟨c0, c1, c2⟩ := hcs j hjl
                  have e : ∀ i, wr.cell? ⟨b, i, none⟩ = w.cell? ⟨b, i, none⟩ := fun i => HKj.out.below.cell (p := ⟨b, i, none⟩) hlt
                  rw [← e] at c0 c1 c2
                  have HX : Hid (Hp w (wr.alloc (.cells #[.int .i64 L[j].kd, .int .i64 L[j].n, .string L[j].k] 29)) (keysT T ((1000 : Nat) : Int) Sj N :: [])) := Lib.hid (HKj.out.bel (Sp.bbox _))
                  have HDj := Lib.hid (drop_calls HX.out (Below.refl _ _) (by have := HFj.out.s; omega) (fun r hr => Nat.le_trans (HFj.out.r r hr) (by decide)) (by omega) L[j].n)
                  have HF2 : Hid (Few 60 (dropR L[j].n Sj)) := Lib.hid (HFj.out.drop _)
                  have HFr2 : Hid (From L (j + 1) (dropR L[j].n Sj)) := Lib.hid (HFr.out.next hjl)
                  obtain ⟨N2, HN2⟩ : ∃ N2, Hid (N + Sj.length = N2) := ⟨_, Lib.hid rfl⟩
                  have hN2 : N2 ≤ 120 + 60 * (j + 1) := by have := HN2.out; have := HFj.out.s; omega
                  rw [HN2.out] at HDj
                  unfold ptr at HDj
                  clear hcs hlt e HKj HX HFr HFj
                  generalize ((Sj.length : Int) - ((dropR L[j].n Sj).length : Int)) = dz at *
                  generalize dropR L[j].n Sj = S2 at *
                  generalize L[j] = q at *
                  go_wp2_with fail
                  refine HDj.out.mono ?_; rintro en w7 ⟨rfl, h7⟩
                  have H7 := Lib.hid h7
                  clear h7 HDj c0 c1 c2
                  go_wp2_with fail
                  go_roundg (gk - 1)
                  case measure => omega
                  case rel => exact ⟨j + 1, N2, S2, by go_num, by omega, by omega, by omega, HF2, HFr2, H7⟩
                case neg =>
                  have hjc : ¬ ((j : Int) < (L.length : Int)) := by omega
                  obtain rfl : j = L.length := by omega
                  have hnil := HFr.out.done (keys_ok HKj.out)
                  rw [hnil] at HKj
                  have HL1 := Lib.hid (len_calls HKj.out (Below.refl _ _))
                  have HD1 := Lib.hid (drop_calls HKj.out (Below.refl _ _) (by decide) (fun r hr => (nomatch hr)) (by omega) x1)
                  rw [show ((([] : Rows).length : Nat) : Int) - ((dropR x1 []).length : Int) = 0 from rfl] at HD1
                  unfold ptr at HL1 HD1
                  have heq : (((S.length : Int) - (sd : Int)) == (al : Int)) = true := by have := HE.out; rw [beq_iff_eq]; omega
                  clear HKj hnil HFj HFr
                  go_wp2_with fail
                  refine HL1.out.mono ?_; rintro en w8 ⟨rfl, rfl⟩
                  go_wp2_with fail
                  refine HD1.out.mono ?_; rintro en w9 ⟨rfl, h9⟩
                  have HB9 := Lib.hid h9.below
                  clear h9 HD1 HL1
                  go_wp2_with fail
                  go_ret
                  exact ⟨rfl, HB9.out⟩
            · intro k x w6 cnt' hlk hgk hks hlt h6 hen
              obtain ⟨A, ids, B, LA, g, c, LB, hSe, hWe, hA, hB, rfl⟩ := HWl.out k x hgk
              obtain ⟨hid, hi60⟩ := HIl.out k ids ⟨A, B, hSe⟩
              have HAs1 := Lib.hid (HAs.out k ids lf ⟨A, B, hSe⟩ hlk)
              have hal := HAle.out lf
              rw [show elS.enc (slK ⟨ids, g, c⟩) = Value.slice (some ⟨g, 0, none⟩) ids.length c from rfl] at hen ⊢
              have HKs := Lib.hid hks
              have hdl2 := less_len x1 ids
              have HIdc := Lib.hid (ids_calls (k := k) (h6.pull 1 rfl) (Below.refl _ _) hks (by rw [hid]; omega))
              rw [hid] at HIdc
              have HBk : Hid (∀ (W' : World) (ll : List Th), Hp w W' (rowI (.slice (some ⟨g, 0, none⟩) ids.length c) ids :: star (LA.map rowK ++ LB.map rowK) :: ll) → Hp w W' (star (W.map rowK) :: ll)) := Lib.hid (fun W' ll hh => by
                have := Sp.Hp.starBack (t := rowK (k, ⟨ids, g, c⟩)) hh
                rw [hWe, List.map_append, List.map_cons]
                exact this)
              have HFw : Hid (∀ (W' : World) (ll : List Th), Hp w W' (star (W.map rowK) :: ll) → Hp w W' (rowI (.slice (some ⟨g, 0, none⟩) ids.length c) ids :: star (LA.map rowK ++ LB.map rowK) :: ll)) := Lib.hid (fun W' ll hh => by
                rw [hWe, List.map_append, List.map_cons] at hh
                exact Sp.Hp.starMid (t := rowK (k, ⟨ids, g, c⟩)) hh)
              unfold ptr at HIdc
              clear hSe hWe hA hB hid HH h6 hgk hlk hks HWl
              go_wp2_with fail
              refine HIdc.out.mono ?_; rintro en w7 ⟨v7, rfl, h7⟩
              obtain ⟨a7, c7, rfl, -, -⟩ := rowI_slice h7
              have H7 : Hid (Hp w (w7.alloc (.cells #[] 3)) (rowI (.slice (some ⟨w7.heap.size, 0, none⟩) 0 0) [] :: rowI (.slice (some ⟨g, 0, none⟩) ids.length c) ids :: star (LA.map rowK ++ LB.map rowK) :: rowI (.slice a7 (lessI x1 ids).length c7) (lessI x1 ids) :: keysT T ((1000 : Nat) : Int) SD NN :: rngL 9 elS M rr S.length S.length GW (fun z => lf z && !decide (z = k)) cnt' :: [])) := Lib.hid (by
                have h8 := HFw.out _ _ (h7.sel [3] rfl)
                exact (rowI_new h8).sel [0, 1, 2, 3, 4, 5] rfl)
              clear h7 HIdc HFw hen
              go_wp2_with fail
              obtain ⟨Go, hGo⟩ : ∃ Go, gk = Go := ⟨_, rfl⟩
              have HGo := Lib.hid hGo
              clear hGo
              go_loopg [16, 70] (ids.length + 1) (fun g2 v16 vi wr => ∃ (i : Nat), vi = .int .i64 i ∧ i ≤ ids.length ∧ ids.length - i ≤ g2 ∧ Hid (Hp w wr (rowI v16 (lessI x1 (ids.take i)) :: rowI (.slice (some ⟨g, 0, none⟩) ids.length c) ids :: star (LA.map rowK ++ LB.map rowK) :: rowI (.slice a7 (lessI x1 ids).length c7) (lessI x1 ids) :: keysT T ((1000 : Nat) : Int) SD NN :: rngL 9 elS M rr S.length S.length GW (fun z => lf z && !decide (z = k)) cnt' :: [])))
              case atStart => exact ⟨0, rfl, by omega, by omega, H7⟩
              case round =>
                obtain ⟨i, rfl, hi, hg2, HI2⟩ := hrel
                clear H7
                by_cases hil2 : i < ids.length
                case pos =>
                  have hic : (i : Int) < (ids.length : Int) := by omega
                  have d2 := rowI_at (HI2.out.pull 1 rfl) hil2
                  have HS := Lib.hid (less_step x1 ids hil2)
                  have hol : (lessI x1 (ids.take i)).length ≤ 1000000 := by
                    have := less_len x1 (ids.take i)
                    rw [List.length_take] at this; omega
                  obtain ⟨L2, HL2⟩ : ∃ L2, Hid (lessI x1 (ids.take (i + 1)) = L2) := ⟨_, Lib.hid rfl⟩
                  rw [HL2.out] at HS
                  generalize lessI x1 (ids.take i) = L1 at *
                  generalize ids.getD i 0 = x at *
                  by_cases hx : x = x1
                  · have hq : (x == x1) = true := by rw [beq_iff_eq]; exact hx
                    have HS2 : Hid (L2 = L1) := Lib.hid (by rw [HS.out, if_pos hx, List.append_nil])
                    clear hx HS
                    go_wp2_with fail
                    go_roundg (gk - 1)
                    case measure => omega
                    case rel => exact ⟨i + 1, by go_num, by omega, by omega, by rw [HL2.out, HS2.out]; exact HI2⟩
                  · have hq : (x == x1) = false := by rw [beq_eq_false_iff_ne]; exact hx
                    have HS2 : Hid (L2 = L1 ++ [x]) := Lib.hid (by rw [HS.out, if_neg hx])
                    clear hx HS
                    go_wp2_with (at_builtin; refine iPush HI2.out rfl _ _ rfl rfl x rfl hol ?_)
                    intro v' w' h'
                    rw [← HS2.out] at h'
                    have H' := Lib.hid h'
                    clear h' d2
                    go_wp2_with fail
                    go_roundg (gk - 1)
                    case measure => omega
                    case rel => exact ⟨i + 1, by go_num, by omega, by omega, by rw [HL2.out]; exact H'⟩
                case neg =>
                  have hic : ¬ ((i : Int) < (ids.length : Int)) := by omega
                  have e : ids.take i = ids := List.take_of_length_le (by omega)
                  rw [e] at HI2
                  obtain ⟨a8, c8, rfl, -, -⟩ := rowI_slice HI2.out
                  have HSa := Lib.hid (sameI_calls _ a7 a8 c7 c8 (lessI x1 ids) (by omega) (rowI_atI (HI2.out.pull 3 rfl)) (rowI_atI HI2.out))
                  have HEn : Hid (∀ W', Below wr.heap.size wr W' → Hp w W' [rngL 9 elS M rr S.length S.length GW (fun z => lf z && !decide (z = k)) cnt', keysT T ((1000 : Nat) : Int) SD NN, star (W.map rowK)]) := Lib.hid (fun W' hb => by
                    have h9 := HI2.out.bel hb
                    have h10 := HBk.out _ _ (h9.sel [1, 2] rfl)
                    exact ((h10.sel [4, 3, 0] rfl).dropAt 3 rfl).dropAt 3 rfl)
                  have halw : IntKind.i64.wrap ((aloneN x1 lf S : Int) + 1) = (aloneN x1 lf S : Int) + 1 := by rw [IntKind.wrap_i64]; omega
                  have HLn := Lib.hid (List.length_eq_zero_iff (l := lessI x1 ids))
                  clear HI2 HBk
                  by_cases hD : lessI x1 ids = []
                  · have HAs2 : Hid (((aloneN x1 (fun z => lf z && !decide (z = k)) S : Nat) : Int) = (aloneN x1 lf S : Int) + 1) := Lib.hid (by rw [HAs1.out, if_pos hD]; omega)
                    have hz : (((lessI x1 ids).length : Int) == 0) = true := by rw [HLn.out.2 hD]; rfl
                    clear hD HAs1 HLn
                    generalize lessI x1 ids = D at *
                    generalize aloneN x1 lf S = al at *
                    go_wp2_with fail
                    refine HSa.out.mono ?_; rintro en w10 ⟨rfl, hb10⟩
                    have H10 := Lib.hid (HEn.out _ hb10)
                    clear HSa HEn hb10
                    go_wp2_with fail
                    go_roundg (Go - 1)
                    case measure => have := HGo.out; omega
                    case rel => exact ⟨cnt', _, by have := HGo.out; omega, by rw [HAs2.out], H10⟩
                  · have HAs2 : Hid (aloneN x1 (fun z => lf z && !decide (z = k)) S = aloneN x1 lf S) := Lib.hid (by rw [HAs1.out, if_neg hD]; rfl)
                    have hz : (((lessI x1 ids).length : Int) == 0) = false := by
                      have : ¬ (lessI x1 ids).length = 0 := fun e => hD (HLn.out.1 e)
                      rw [beq_eq_false_iff_ne]; omega
                    clear hD HAs1 HLn
                    generalize lessI x1 ids = D at *
                    generalize aloneN x1 lf S = al at *
                    go_wp2_with fail
                    refine HSa.out.mono ?_; rintro en w10 ⟨rfl, hb10⟩
                    have H10 := Lib.hid (HEn.out _ hb10)
                    clear HSa HEn hb10
                    go_wp2_with fail
                    go_roundg (Go - 1)
                    case measure => have := HGo.out; omega
                    case rel => exact ⟨cnt', _, by have := HGo.out; omega, by rw [HAs2.out], H10⟩
end Go.Proofs.Ytkpcobaklbfpcaa.Ka
