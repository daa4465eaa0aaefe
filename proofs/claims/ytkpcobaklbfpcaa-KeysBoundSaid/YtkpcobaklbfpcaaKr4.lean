/- Layer 14, the checking package's Take, Drop. Conditions: they lie; bounds. -/
import Derived.Test.YtkpcobaklbfpcaaKr3
namespace Go.Proofs.Ytkpcobaklbfpcaa.Ka
set_option linter.unusedVariables false
set_option linter.unusedSimpArgs false
open Go.ChangeShapes Go.WideShapes Go.ChangeAt Go.RowKit
open Sp (Th Hp Stays All Ro roT cellsT rowT exT puT star)
open Ca (inK inK_iff inK_false dropK dropK_none)
theorem less_step (n : Int) (ids : List Int) {j : Nat} (hj : j < ids.length) : lessI n (ids.take (j + 1)) = lessI n (ids.take j) ++ (if ids.getD j 0 = n then [] else [ids.getD j 0]) := by
  have e : ids.getD j 0 = ids[j] := by simp [List.getD, hj]
  rw [e]
  exact (with_take (n := n) hj).2.2
section
variable {o w w' wb : World} {l : List Th} {B : Nat} {m : Int} {S : Rows} {k : ByteArray} {ids : List Int} {v : Value}
theorem rowG_new (h : Hp o w l) : Hp o (w.alloc (.cells #[] 62)) (rowG (.slice (some ⟨w.heap.size, 0, none⟩) 0 0) [] :: l) :=
  h.rowAdd (Sp.bbox _) (World.ownsRow_made w #[] 0 (Nat.le_refl _) (Nat.zero_le _) rfl) (Nat.le_refl _)
set_option maxHeartbeats 4000000 in
set_option maxRecDepth 100000 in
theorem rtake_calls (h : Hp o w (refT B m S :: l)) (hw : Below w.heap.size w wb) (hS : S.length ≤ 100000) (k : ByteArray) :
    Calls Try.prog 13 #[ptr B, .string k] wb fun e w' => ∃ a c, e = .returned (.slice a (idsR k S).length c) ∧ Hp o w' (roT (atRo a (idsR k S)) :: refT B m (takeR k S) :: l) := by
  have HI := Lib.hid (rids_calls h hw hS k)
  have HSl := Lib.hid hS
  clear h hw hS
  unfold ptr at *
  go_enter Try.func13, Try.ntmps13
  go_wp2_with fail
  refine HI.out.mono ?_; rintro en w1 ⟨a0, c0, rfl, h1⟩
  obtain ⟨G, v, e, hok, h2⟩ := ref_open h1.swap
  have hS := HSl.out
  rw [← e, plainG_len] at hS
  have HE := Lib.hid e
  have HOK := Lib.hid hok
  obtain ⟨a, cc, rfl, -, hcc, ha⟩ := (h2.pull 1 rfl).rowForm
  have H0 : Hid (Hp o (w1.alloc (.cells #[] 62)) (rowG (.slice (some ⟨w1.heap.size, 0, none⟩) 0 0) [] :: cellsT B [.slice a G.length cc, .int .i64 m] :: rowG (.slice a G.length cc) G :: roT (allRo G) :: roT (atRo a0 (idsR k S)) :: l)) := Lib.hid (rowG_new h2)
  have d0 := (H0.out.pull 1 rfl).cell 0 rfl
  clear h1 h2 hok e HI HSl
  obtain ⟨D, HD⟩ : ∃ D, Hid (idsR k S = D) := ⟨_, Lib.hid rfl⟩
  rw [HD.out] at H0 ⊢
  go_wp2_with fail
  go_loopg [6, 8, 18] (G.length + 1) (fun g v6 _ vi wr => ∃ (j : Nat), vi = .int .i64 j ∧ j ≤ G.length ∧ G.length - j ≤ g ∧ Hid (Hp o wr (rowG v6 (takeG k (G.take j)) :: cellsT B [.slice a G.length cc, .int .i64 m] :: rowG (.slice a G.length cc) G :: roT (allRo G) :: roT (atRo a0 D) :: l)))
  case atStart => exact ⟨0, rfl, by omega, by omega, H0⟩
  case round =>
    obtain ⟨j, rfl, hj, hg, HH⟩ := hrel
    clear H0 d0
    by_cases hjl : j < G.length
    case pos =>
      have hjc : (j : Int) < (G.length : Int) := by omega
      obtain ⟨gb, rfl⟩ := ha (by omega)
      obtain ⟨d0, d1⟩ := rowG_at (HH.out.pull 2 rfl) hjl
      have HX := Lib.hid (HH.out.bel (Sp.bbox (w := wr) (.cells #[.string G[j].1, .slice G[j].2.a G[j].2.ids.length G[j].2.c] 62)))
      have HT := Lib.hid (takeG_step (k := k) hjl)
      have hlen : (takeG k (G.take j)).length ≤ 1000000 := by
        have := takeG_len k (G.take j)
        rw [List.length_take] at this; omega
      obtain ⟨G2, HG2⟩ : ∃ G2, Hid (takeG k (G.take (j + 1)) = G2) := ⟨_, Lib.hid rfl⟩
      rw [HG2.out] at HT
      clear ha HH
      generalize takeG k (G.take j) = G1 at *
      by_cases hq : G[j].1 = k
      · have hqe := Ca.beq_eq hq
        have HT2 : Hid (G2 = G1) := Lib.hid (by rw [HT.out, if_pos hq, List.append_nil])
        clear hq HT
        generalize G[j] = r at *
        go_wp2_with fail
        go_roundg (gk - 1)
        case measure => omega
        case rel => exact ⟨j + 1, by go_num, by omega, by omega, by rw [HG2.out, HT2.out]; exact HX⟩
      · have hqe := Ca.beq_ne hq
        have HT2 : Hid (G2 = G1 ++ [G[j]]) := Lib.hid (by rw [HT.out, if_neg hq])
        clear hq HT
        generalize G[j] = r at *
        go_wp2_with (at_builtin; refine gPush HX.out rfl _ _ rfl rfl r rfl (by simp) hlen ?_)
        intro v' w' h'
        rw [← HT2.out] at h'
        have H' := Lib.hid h'
        clear h' HX
        go_wp2_with fail
        go_roundg (gk - 1)
        case measure => omega
        case rel => exact ⟨j + 1, by go_num, by omega, by omega, by rw [HG2.out]; exact H'⟩
    case neg =>
      have hjc : ¬ ((j : Int) < (G.length : Int)) := by omega
      have e : G.take j = G := List.take_of_length_le (by omega)
      rw [e] at HH
      obtain ⟨da, dc, rfl, -, -, -⟩ := HH.out.rowForm
      have d0 := (HH.out.pull 1 rfl).cell 0 rfl
      have f0 := (HH.out.pull 1 rfl).free 0 rfl
      have HV := Lib.hid ((HH.out.pull 1 rfl).cellSet 0 (.slice da (takeG k G).length dc) rfl)
      generalize (takeG k G).length = tn at *
      go_wp2_with fail
      go_ret
      refine ⟨a0, ⟨c0, by rw [HD.out]; rfl⟩, ?_⟩
      rw [HD.out]
      have h1 := HV.out
      have h2 := ro_sub (G' := takeG k G) (h1.pull 3 rfl) fun r hr => (List.mem_filter.1 hr).1
      refine (ref_shut (G := takeG k G) ?_ (HOK.out.take k) (h2.sel [1, 2, 0] rfl |>.dropAt 3 rfl)).swap
      rw [takeG_plain, HE.out]
set_option maxHeartbeats 8000000 in
set_option maxRecDepth 100000 in
theorem rdrop_calls (h : Hp o w (refT B m S :: l)) (hw : Below w.heap.size w wb) (hS : S.length ≤ 100000) (hl : ∀ r ∈ S, r.2.length ≤ 100000) (n : Int) :
    Calls Try.prog 16 #[ptr B, .int .i64 n] wb fun e w' => e = .returned (.int .i64 ((S.length : Int) - (dropR n S).length)) ∧ Hp o w' (refT B m (dropR n S) :: l) := by
  obtain ⟨G, v, rfl, hok, h⟩ := ref_open (h.bel hw)
  have HOK := Lib.hid hok
  have HLn := Lib.hid (plainG_len G)
  have HIl : Hid (∀ j (hj : j < G.length), G[j].2.ids.length ≤ 100000) := Lib.hid (fun j hj => hl (G[j].1, G[j].2.ids) (List.mem_map_of_mem (f := fun r : ByteArray × Gw => (r.1, r.2.ids)) (List.getElem_mem hj)))
  have hdl := drop_len n (plainG G)
  rw [plainG_len] at hS hdl
  obtain ⟨a, cc, rfl, -, hcc, ha⟩ := (h.pull 1 rfl).rowForm
  have H0 : Hid (Hp o (wb.alloc (.cells #[] 62)) (rowG (.slice (some ⟨wb.heap.size, 0, none⟩) 0 0) [] :: roT (allRo []) :: cellsT B [.slice a G.length cc, .int .i64 m] :: rowG (.slice a G.length cc) G :: roT (allRo G) :: l)) := Lib.hid (rowG_new (h.roNew (allRo []) fun R r hr => (nomatch hr)))
  have d0 := (H0.out.pull 2 rfl).cell 0 rfl
  clear h hw hok hl
  unfold ptr at *
  go_enter Try.func16, Try.ntmps16
  go_wp2_with fail
  go_loopg [5, 7, 8, 10, 18] (G.length + 1) (fun g v5 _ _ _ vi wr => ∃ (j : Nat) (G' : Gl), vi = .int .i64 j ∧ j ≤ G.length ∧ G.length - j ≤ g ∧ G'.length ≤ j ∧ Hid (plainG G' = dropR n (plainG (G.take j))) ∧ Hid (Hp o wr (rowG v5 G' :: roT (allRo G') :: cellsT B [.slice a G.length cc, .int .i64 m] :: rowG (.slice a G.length cc) G :: roT (allRo G) :: l)))
  case atStart => exact ⟨0, [], rfl, by omega, by omega, Nat.le_refl _, Lib.hid rfl, H0⟩
  case round =>
    obtain ⟨j, G', rfl, hj, hg, hgl, HP, HH⟩ := hrel
    clear H0 d0
    by_cases hjl : j < G.length
    case pos =>
      have hjc : (j : Int) < (G.length : Int) := by omega
      obtain ⟨gb, rfl⟩ := ha (by omega)
      obtain ⟨d0, d1⟩ := rowG_at (HH.out.pull 3 rfl) hjl
      have hil := HIl.out j hjl
      have HX : Hid (Hp o (wr.alloc (.cells #[.string G[j].1, .slice G[j].2.a G[j].2.ids.length G[j].2.c] 62)) (cellsT wr.heap.size [.string G[j].1, .slice G[j].2.a G[j].2.ids.length G[j].2.c] :: roT (atRo G[j].2.a G[j].2.ids) :: rowG u5 G' :: roT (allRo G') :: cellsT B [.slice (some ⟨gb, 0, none⟩) G.length cc, .int .i64 m] :: rowG (.slice (some ⟨gb, 0, none⟩) G.length cc) G :: roT (allRo G) :: l)) := Lib.hid (by
        have h1 := ro_one (HH.out.pull 4 rfl) (List.getElem_mem hjl)
        exact (h1.cellsNew [.string G[j].1, .slice G[j].2.a G[j].2.ids.length G[j].2.c] 62).sel [0, 1, 3, 4, 5, 6, 2] rfl)
      have HPn : Hid (∀ D : Gw, D.ids = lessI n G[j].2.ids → (D.ids = [] → plainG G' = dropR n (plainG (G.take (j + 1)))) ∧ (D.ids ≠ [] → plainG (G' ++ [(G[j].1, D)]) = dropR n (plainG (G.take (j + 1))))) := Lib.hid (fun D hD => by
        have e1 : plainG (G.take (j + 1)) = plainG (G.take j) ++ [(G[j].1, G[j].2.ids)] := by
          rw [← List.take_append_getElem hjl]
          unfold plainG
          rw [List.map_append]; rfl
        rw [e1, drop_app, drop_one, ← HP.out]
        unfold cutR
        refine ⟨fun he => ?_, fun he => ?_⟩
        · show plainG G' = plainG G' ++ if lessI n G[j].2.ids = [] then _ else _
          rw [← hD, if_pos he, List.append_nil]
        · show _ = plainG G' ++ if lessI n G[j].2.ids = [] then _ else _
          rw [← hD, if_neg he]
          unfold plainG
          rw [List.map_append]; rfl)
      clear HH HP ha
      generalize G[j] = r at *
      obtain ⟨rk, rids, ra, rc⟩ := r
      simp only at d0 d1 hil HX HPn
      have HX : Hid (Hp o (wr.alloc (.cells #[.string rk, .slice ra rids.length rc] 62)) (cellsT wr.heap.size [.string rk, .slice ra rids.length rc] :: roT (atRo ra rids) :: rowG u5 G' :: roT (allRo G') :: cellsT B [.slice (some ⟨gb, 0, none⟩) G.length cc, .int .i64 m] :: rowG (.slice (some ⟨gb, 0, none⟩) G.length cc) G :: roT (allRo G) :: l)) := HX
      go_upto_region 5 with fail
      generalize wr.alloc (.cells #[.string rk, .slice ra rids.length rc] 62) = W0 at *
      generalize wr.heap.size = BX at *
      clear d0 d1
      have HY := Lib.hid (rowI_new HX.out)
      have d1 := (HY.out.pull 1 rfl).cell 1 rfl
      clear HX
      go_wp2_with fail
      obtain ⟨Go, hGo⟩ : ∃ Go, gk = Go := ⟨_, rfl⟩
      have HGo := Lib.hid hGo
      clear hGo d1
      go_loopg [8, 10, 26] (rids.length + 1) (fun g v8 _ vi wi => ∃ (i : Nat), vi = .int .i64 i ∧ i ≤ rids.length ∧ rids.length - i ≤ g ∧ Hid (Hp o wi (rowI v8 (lessI n (rids.take i)) :: cellsT BX [.string rk, .slice ra rids.length rc] :: roT (atRo ra rids) :: rowG u5 G' :: roT (allRo G') :: cellsT B [.slice (some ⟨gb, 0, none⟩) G.length cc, .int .i64 m] :: rowG (.slice (some ⟨gb, 0, none⟩) G.length cc) G :: roT (allRo G) :: l)))
      case atStart => exact ⟨0, rfl, by omega, by omega, HY⟩
      case round =>
        obtain ⟨i, rfl, hi, hg2, HI⟩ := hrel
        clear HY
        by_cases hil2 : i < rids.length
        case pos =>
          have hic : (i : Int) < (rids.length : Int) := by omega
          obtain ⟨g1, rfl, hcs⟩ := at_ro (HI.out.pull 2 rfl) (by omega)
          have d2 := hcs i hil2
          have HS := Lib.hid (less_step n rids hil2)
          have hol : (lessI n (rids.take i)).length ≤ 1000000 := by
            have := less_len n (rids.take i)
            rw [List.length_take] at this; omega
          obtain ⟨L2, HL2⟩ : ∃ L2, Hid (lessI n (rids.take (i + 1)) = L2) := ⟨_, Lib.hid rfl⟩
          rw [HL2.out] at HS
          clear hcs
          generalize lessI n (rids.take i) = L1 at *
          generalize rids.getD i 0 = x at *
          by_cases hx : x = n
          · have hq : (x == n) = true := by rw [beq_iff_eq]; exact hx
            have HS2 : Hid (L2 = L1) := Lib.hid (by rw [HS.out, if_pos hx, List.append_nil])
            clear hx HS
            go_wp2_with fail
            go_roundg (gk - 1)
            case measure => omega
            case rel => exact ⟨i + 1, by go_num, by omega, by omega, by rw [HL2.out, HS2.out]; exact HI⟩
          · have hq : (x == n) = false := by rw [beq_eq_false_iff_ne]; exact hx
            have HS2 : Hid (L2 = L1 ++ [x]) := Lib.hid (by rw [HS.out, if_neg hx])
            clear hx HS
            go_wp2_with (at_builtin; refine iPush HI.out rfl _ _ rfl rfl x rfl hol ?_)
            intro v' w' h'
            rw [← HS2.out] at h'
            have H' := Lib.hid h'
            clear h' d2
            go_wp2_with fail
            go_roundg (gk - 1)
            case measure => omega
            case rel => exact ⟨i + 1, by go_num, by omega, by omega, by rw [HL2.out]; exact H'⟩
        case neg =>
          have hic : ¬ ((i : Int) < (rids.length : Int)) := by omega
          have e : rids.take i = rids := List.take_of_length_le (by omega)
          rw [e] at HI
          obtain ⟨da, dc, rfl, hd1, hd2⟩ := rowI_slice HI.out
          have HPn2 := Lib.hid (HPn.out ⟨lessI n rids, da, dc⟩ rfl)
          have hdlen := less_len n rids
          have d3 := (HI.out.pull 1 rfl).cell 0 rfl
          clear HPn
          by_cases hD : lessI n rids = []
          · have HQ := Lib.hid (HPn2.out.1 hD)
            have hz : (lessI n rids).length = 0 := by rw [hD]; rfl
            have hz2 : ¬ (0 : Int) < ((lessI n rids).length : Int) := by omega
            have HF := Lib.hid ((HI.out.dropAt 0 rfl).dropAt 0 rfl |>.dropAt 0 rfl)
            clear HPn2 HI hD hz
            generalize (lessI n rids).length = dn at *
            go_wp2_with fail
            go_roundg (Go - 1)
            case measure => have := HGo.out; omega
            case rel => exact ⟨j + 1, G', by go_num, by omega, by have := HGo.out; omega, by omega, HQ, HF⟩
          · have HQ := Lib.hid (HPn2.out.2 hD)
            have hz : (lessI n rids).length ≠ 0 := fun e => hD (List.length_eq_zero_iff.1 e)
            have hz2 : (0 : Int) < ((lessI n rids).length : Int) := by omega
            have HF : Hid (Hp o wr (rowG u5 G' :: roT (atRo da (lessI n rids)) :: roT (allRo G') :: cellsT BX [.string rk, .slice ra rids.length rc] :: cellsT B [.slice (some ⟨gb, 0, none⟩) G.length cc, .int .i64 m] :: rowG (.slice (some ⟨gb, 0, none⟩) G.length cc) G :: roT (allRo G) :: l)) := Lib.hid ((rowI_give HI.out).dropAt 2 rfl |>.sel [2, 0, 3, 1] rfl)
            clear HPn2 HI hD hz
            have hgl2 : G'.length ≤ 1000000 := by omega
            generalize lessI n rids = D at *
            go_wp2_with (at_builtin; refine gPush HF.out rfl _ _ rfl rfl (rk, ⟨D, da, dc⟩) rfl rfl hgl2 ?_)
            intro v' w' h'
            have H' : Hid (Hp o w' (rowG v' (G' ++ [(rk, ⟨D, da, dc⟩)]) :: roT (allRo (G' ++ [(rk, ⟨D, da, dc⟩)])) :: cellsT B [.slice (some ⟨gb, 0, none⟩) G.length cc, .int .i64 m] :: rowG (.slice (some ⟨gb, 0, none⟩) G.length cc) G :: roT (allRo G) :: l)) := Lib.hid (by
              have h2 := (h'.sel [1, 2] rfl).roTwo (r := allRo (G' ++ [(rk, ⟨D, da, dc⟩)])) fun hp1 hp2 r hr => by
                rcases List.mem_append.1 hr with hr | hr
                · exact hp2 r hr
                · rw [List.mem_singleton.1 hr]; exact hp1
              exact (h2.swap).dropAt 2 rfl)
            clear h' HF d3
            go_wp2_with fail
            go_roundg (Go - 1)
            case measure => have := HGo.out; omega
            case rel => exact ⟨j + 1, _, by go_num, by omega, by have := HGo.out; omega, by rw [List.length_append, List.length_singleton]; omega, HQ, H'⟩
    case neg =>
      have hjc : ¬ ((j : Int) < (G.length : Int)) := by omega
      have e : G.take j = G := List.take_of_length_le (by omega)
      rw [e] at HP
      obtain ⟨da, dc, rfl, -, -, -⟩ := HH.out.rowForm
      have hgd : Hid (G'.length = (dropR n (plainG G)).length) := Lib.hid (by rw [← plainG_len G', HP.out])
      have d0 := (HH.out.pull 2 rfl).cell 0 rfl
      have f0 := (HH.out.pull 2 rfl).free 0 rfl
      have hsub : IntKind.i64.wrap ((G.length : Int) - (G'.length : Int)) = (G.length : Int) - (G'.length : Int) := by have := hgd.out; rw [IntKind.wrap_i64]; omega
      go_wp2_with fail
      go_ret
      refine ⟨by rw [HLn.out, ← hgd.out]; rfl, ?_⟩
      have h1 := (HH.out.pull 2 rfl).cellSet 0 (.slice da G'.length dc) rfl
      exact ref_shut (G := G') HP.out (HOK.out.drop n) (h1.dropAt 3 rfl |>.dropAt 3 rfl)
end
end Go.Proofs.Ytkpcobaklbfpcaa.Ka
