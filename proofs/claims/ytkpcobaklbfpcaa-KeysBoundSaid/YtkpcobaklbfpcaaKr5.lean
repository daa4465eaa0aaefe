/- Layer 14, the checking package's Add. Conditions: they lie; bounds. -/
import Derived.Test.YtkpcobaklbfpcaaKr4
namespace Go.Proofs.Ytkpcobaklbfpcaa.Ka
set_option linter.unusedVariables false
set_option linter.unusedSimpArgs false
open Go.ChangeShapes Go.WideShapes Go.ChangeAt Go.RowKit
open Sp (Th Hp Stays All Ro roT cellsT rowT exT puT star)
open Ca (inK inK_iff inK_false dropK dropK_none)
theorem full_in {m : Nat} {k : ByteArray} {S : Rows} (h : k ∈ keysL S) : fullR m k S = false ∧ roomR m k S = S ∧ goneR m k S = (⟨#[]⟩, []) := by
  have e : fullR m k S = false := by unfold fullR; rw [inK_iff.2 h]; rfl
  exact ⟨e, by unfold roomR; rw [e]; rfl, by unfold goneR; rw [e]; rfl⟩
theorem full_no {m : Nat} {k : ByteArray} {S : Rows} (h : S.length < m) : fullR m k S = false ∧ roomR m k S = S ∧ goneR m k S = (⟨#[]⟩, []) := by
  have e : fullR m k S = false := by unfold fullR; rw [decide_eq_false (by omega)]; exact Bool.and_false _
  exact ⟨e, by unfold roomR; rw [e]; rfl, by unfold goneR; rw [e]; rfl⟩
theorem full_yes {m : Nat} {k : ByteArray} {r : ByteArray × List Int} {S : Rows} (h : k ∉ keysL (r :: S)) (hm : m ≤ S.length + 1) : fullR m k (r :: S) = true ∧ roomR m k (r :: S) = S ∧ goneR m k (r :: S) = r := by
  have e : fullR m k (r :: S) = true := by unfold fullR; rw [inK_false.2 h, decide_eq_true (by simpa using hm)]; rfl
  exact ⟨e, by unfold roomR; rw [e]; rfl, by unfold goneR; rw [e]; rfl⟩
theorem cellsG_set : ∀ (G : Gl) (j : Nat) (hj : j < G.length) (D : Gw), cellsG (G.set j (G[j].1, D)) = (cellsG G).set (j * 2 + 1) (.slice D.a D.ids.length D.c)
  | [], j, hj, _ => absurd hj (Nat.not_lt_zero _)
  | p :: P, 0, _, D => rfl
  | p :: P, j + 1, hj, D => by
    have := cellsG_set P j (by simpa using hj) D
    show cells2 p ++ cellsG (P.set j _) = (cells2 p ++ cellsG P).set ((j + 1) * 2 + 1) _
    rw [List.set_append_right _ _ (by show 2 ≤ _; omega)]
    show _ = cells2 p ++ (cellsG P).set ((j + 1) * 2 + 1 - 2) _
    rw [show (j + 1) * 2 + 1 - 2 = j * 2 + 1 by omega, ← this]
    rfl
theorem plainG_set (G : Gl) (j : Nat) (hj : j < G.length) (D : Gw) : plainG (G.set j (G[j].1, D)) = plainG (G.take j) ++ (G[j].1, D.ids) :: plainG (G.drop (j + 1)) := by
  rw [List.set_eq_take_append_cons_drop, if_pos hj]
  unfold plainG
  rw [List.map_append, List.map_cons]
section
variable {o w w' wb : World} {l : List Th} {B m : Nat} {S : Rows} {k : ByteArray} {ids : List Int} {v : Value}
theorem rowG_of {Gt : Gl} {nl : Nat} (h : Hp o w (rowT 62 2 v nl (cellsG [] ++ cellsG Gt) :: l)) (e : nl = Gt.length) : Hp o w (rowG v Gt :: l) := by
  rw [e] at h
  exact h
set_option maxHeartbeats 16000000 in
set_option maxRecDepth 100000 in
theorem radd_calls (h : Hp o w (refT B (m : Int) S :: l)) (hw : Below w.heap.size w wb) (hk : k.size ≤ maxLen) (hm : 1 ≤ m) (hS : S.length ≤ 100000) (hl : ∀ r ∈ S, r.2.length ≤ 100000) (n : Int) (hn : (Lit.int .i64 n).wf = true) :
    Calls Try.prog 10 #[ptr B, .string k, .int .i64 n] wb fun e w' => ∃ a c, e = .returned (.tuple #[.string (goneR m k S).1, .slice a (goneR m k S).2.length c, .bool (fullR m k S)]) ∧ Hp o w' (roT (atRo a (goneR m k S).2) :: refT B (m : Int) (addR k n (roomR m k S)) :: l) := by
  obtain ⟨G, v, rfl, hok, h⟩ := ref_open (h.bel hw)
  have HOK := Lib.hid hok
  have HIl : Hid (∀ j (hj : j < G.length), G[j].2.ids.length ≤ 100000) := Lib.hid (fun j hj => hl (G[j].1, G[j].2.ids) (List.mem_map_of_mem (f := fun r : ByteArray × Gw => (r.1, r.2.ids)) (List.getElem_mem hj)))
  rw [plainG_len] at hS
  obtain ⟨a, cc, rfl, hnc, hcc, ha⟩ := (h.pull 1 rfl).rowForm
  have H0 := Lib.hid h
  have d0 := h.cell 0 rfl
  have HA := Lib.hid (hok.add (k := k) (n := n) hk hn)
  have HKn := Lib.hid (And.intro hk hn)
  clear h hw hok hl hk hn
  unfold ptr at *
  go_enter Try.func10, Try.ntmps10
  go_wp2_with fail
  clear d0
  go_loopg [9, 10, 18] (G.length + 1) (fun g _ _ vi wr => ∃ j : Nat, vi = .int .i64 j ∧ j ≤ G.length ∧ G.length - j ≤ g ∧ Hid (∀ i (hi : i < G.length), i < j → G[i].1 ≠ k) ∧ Hid (Hp o wr (cellsT B [.slice a G.length cc, .int .i64 m] :: rowG (.slice a G.length cc) G :: roT (allRo G) :: l)))
  case atStart => exact ⟨0, rfl, by omega, by omega, Lib.hid (fun i hi h => by omega), H0⟩
  case round =>
    obtain ⟨j, rfl, hj, hg, HB, HH⟩ := hrel
    clear H0
    by_cases hjl : j < G.length
    case pos =>
      have hjc : (j : Int) < (G.length : Int) := by omega
      obtain ⟨gb, rfl⟩ := ha (by omega)
      obtain ⟨e0, e1⟩ := rowG_at (HH.out.pull 1 rfl) hjl
      have hil := HIl.out j hjl
      by_cases hq : G[j].1 = k
      · have hqe := Ca.beq_eq hq
        have hin : k ∈ keysL (plainG G) := by rw [plainG_keys, ← hq]; exact List.mem_map_of_mem (List.getElem_mem hjl)
        have hsp := plainG_split G hjl
        have hu : Up G[j].2.ids := HOK.out.up _ (by rw [hsp]; exact List.mem_append.2 (.inr (List.mem_cons_self ..)))
        have HG : Hid (fullR m k (plainG G) = false ∧ roomR m k (plainG G) = plainG G ∧ goneR m k (plainG G) = (⟨#[]⟩, [])) := Lib.hid (full_in hin)
        have HX : Hid (Hp o (wr.alloc (.cells #[.string G[j].1, .slice G[j].2.a G[j].2.ids.length G[j].2.c] 62)) (cellsT wr.heap.size [.string G[j].1, .slice G[j].2.a G[j].2.ids.length G[j].2.c] :: roT (atRo G[j].2.a G[j].2.ids) :: cellsT B [.slice (some ⟨gb, 0, none⟩) G.length cc, .int .i64 m] :: rowG (.slice (some ⟨gb, 0, none⟩) G.length cc) G :: roT (allRo G) :: l)) := Lib.hid (by
          have h1 := ro_one (HH.out.pull 2 rfl) (List.getElem_mem hjl)
          exact (h1.cellsNew [.string G[j].1, .slice G[j].2.a G[j].2.ids.length G[j].2.c] 62).sel [0, 1, 3, 4, 2] rfl)
        have HF : Hid (∀ (W : World) (da : Option Addr) (dc : Nat), Hp o W (rowT 62 2 (.slice (some ⟨gb, 0, none⟩) G.length cc) G.length ((cellsG G).set (j * 2 + 1) (.slice da (withI n G[j].2.ids).length dc)) :: roT (atRo da (withI n G[j].2.ids)) :: roT (allRo G) :: cellsT B [.slice (some ⟨gb, 0, none⟩) G.length cc, .int .i64 m] :: l) → Hp o W (refT B (m : Int) (addR k n (plainG G)) :: l)) := Lib.hid (fun W da dc hh => by
          have h1 := (hh.sel [1, 2] rfl).roTwo (r := allRo (G.set j (G[j].1, ⟨withI n G[j].2.ids, da, dc⟩))) fun hp1 hp2 r hr => by
            rcases List.mem_or_eq_of_mem_set hr with hr | hr
            · exact hp2 r hr
            · rw [hr]; exact hp1
          have h2 : Hp o W (cellsT B [.slice (some ⟨gb, 0, none⟩) G.length cc, .int .i64 m] :: rowG (.slice (some ⟨gb, 0, none⟩) G.length cc) (G.set j (G[j].1, ⟨withI n G[j].2.ids, da, dc⟩)) :: roT (allRo (G.set j (G[j].1, ⟨withI n G[j].2.ids, da, dc⟩))) :: l) := by
            unfold rowG
            rw [cellsG_set G j hjl, List.length_set]
            exact h1.sel [2, 1, 0] rfl
          have e : plainG (G.set j (G[j].1, ⟨withI n G[j].2.ids, da, dc⟩)) = addR k n (plainG G) := by
            rw [plainG_set G j hjl, hsp, hq]
            refine (add_mid (mid_of (x := G[j].2.ids) ?_) n).symm
            rw [← hq, ← hsp]
            exact HOK.out.nd
          exact ref_shut e HA.out h2)
        clear HH HB hin hsp hq
        generalize G[j] = r at *
        obtain ⟨rk, rids, ra, rc⟩ := r
        simp only at e0 e1 hil HX HF hqe hu
        have HX : Hid (Hp o (wr.alloc (.cells #[.string rk, .slice ra rids.length rc] 62)) (cellsT wr.heap.size [.string rk, .slice ra rids.length rc] :: roT (atRo ra rids) :: cellsT B [.slice (some ⟨gb, 0, none⟩) G.length cc, .int .i64 m] :: rowG (.slice (some ⟨gb, 0, none⟩) G.length cc) G :: roT (allRo G) :: l)) := HX
        go_upto_region 4 with fail
        generalize wr.alloc (.cells #[.string rk, .slice ra rids.length rc] 62) = W0 at *
        generalize wr.heap.size = BX at *
        clear e0 e1
        have f0 := HX.out.cell 0 rfl
        have H1 := Lib.hid (HX.out.bel (Below.refl _ _).drew)
        have S1 : Hid (W0.drew.cell? ⟨B, 0, none⟩ = some (.slice (some ⟨gb, 0, none⟩) G.length cc) ∧ W0.drew.cell? ⟨BX, 1, none⟩ = some (.slice ra rids.length rc)) := Lib.hid ⟨(H1.out.pull 2 rfl).cell 0 rfl, H1.out.cell 1 rfl⟩
        have HW := Lib.hid (rwith_calls (H1.out.pull 1 rfl) (Below.refl _ _) hu hil n rc)
        have hj2 : j * 2 + 1 < G.length * 2 := by omega
        have HJ := Lib.hid hj2
        clear HX hu hj2
        go_wp2_with fail
        go_region_held3 (fun W : World => W.cell? ⟨B, 0, none⟩ = some (.slice (some ⟨gb, 0, none⟩) G.length cc) ∧ W.cell? ⟨BX, 1, none⟩ = some (.slice ra rids.length rc))
          (first | exact S1.out | exact S2.out | exact S3.out)
          (first
            | (go_at_call 26; with_reducible refine HW.out.mono ?_; rintro en8 w8 ⟨v8, rfl, h8⟩; obtain ⟨da, dc, rfl, -, -⟩ := rowI_slice h8; have S2 : Hid (w8.cell? ⟨B, 0, none⟩ = some (.slice (some ⟨gb, 0, none⟩) G.length cc) ∧ w8.cell? ⟨BX, 1, none⟩ = some (.slice ra rids.length rc)) := Lib.hid ⟨(h8.pull 3 rfl).cell 0 rfl, (h8.pull 2 rfl).cell 1 rfl⟩; have t0 : (w8.cell? ⟨gb, j * 2 + 1, none⟩).isSome = true := (by have := (h8.pull 4 rfl).rowCell HJ.out; rw [this]; simp [cellsG_len]; exact HJ.out); obtain ⟨u0, t1⟩ := Option.isSome_iff_exists.1 t0; have t2 : w8.frozen? ⟨gb, j * 2 + 1, none⟩ = false := (h8.pull 4 rfl).rowFrozen _; have h9 := ((rowI_give h8).pull 4 rfl).rowSet (j * 2 + 1) (.slice da (withI n rids).length dc); have S3 : Hid ((w8.setCell ⟨gb, j * 2 + 1, none⟩ (.slice da (withI n rids).length dc)).cell? ⟨B, 0, none⟩ = some (.slice (some ⟨gb, 0, none⟩) G.length cc) ∧ (w8.setCell ⟨gb, j * 2 + 1, none⟩ (.slice da (withI n rids).length dc)).cell? ⟨BX, 1, none⟩ = some (.slice ra rids.length rc)) := Lib.hid ⟨(h9.pull 4 rfl).cell 0 rfl, (h9.pull 3 rfl).cell 1 rfl⟩; have H9 := Lib.hid h9; clear h8 h9 t0))
        all_goals (
          have H9 : Hid (Hp o (w8.setCell ⟨gb, j * 2 + 1, none⟩ (.slice da (withI n rids).length dc)) (rowT 62 2 (.slice (some ⟨gb, 0, none⟩) G.length cc) G.length ((cellsG G).set (j * 2 + 1) (.slice da (withI n rids).length dc)) :: roT (atRo da (withI n rids)) :: roT (atRo ra rids) :: cellsT BX [.string rk, .slice ra rids.length rc] :: cellsT B [.slice (some ⟨gb, 0, none⟩) G.length cc, .int .i64 m] :: roT (allRo G) :: l)) := H9
          clear HW S1 S2 S3 H1 t1 t2
          go_wp2_with fail
          go_ret3
          rw [HG.out.1, HG.out.2.1, HG.out.2.2]
          exact ⟨none, 0, rfl, ro_none (HF.out _ _ _ (H9.out.sel [0, 1, 5, 4] rfl |>.dropAt 4 rfl |>.dropAt 4 rfl)) none⟩)
      · have hqe := Ca.beq_ne hq
        have HX := Lib.hid (HH.out.bel (Sp.bbox (w := wr) (.cells #[.string G[j].1, .slice G[j].2.a G[j].2.ids.length G[j].2.c] 62)))
        have HB1 : Hid (∀ i (hi : i < G.length), i < j + 1 → G[i].1 ≠ k) := Lib.hid (fun i hi h => by
          by_cases e : i = j
          · subst e; exact hq
          · exact HB.out i hi (by omega))
        clear HH hq
        generalize G[j].1 = q at *
        generalize G[j].2.ids.length = n1 at *
        generalize G[j].2.c = c1 at *
        generalize G[j].2.a = a1 at *
        go_wp2_with fail
        go_roundg (gk - 1)
        case measure => omega
        case rel => exact ⟨j + 1, by go_num, by omega, by omega, HB1, HX⟩
    case neg =>
      have hjc : ¬ ((j : Int) < (G.length : Int)) := by omega
      have hout := ids_out (k := k) (G := G) fun i hi => HB.out i hi (by omega)
      have HO := Lib.hid hout
      have HX : Hid (Hp o (wr.alloc (.cells #[.string ⟨#[]⟩, .slice none 0 0] 62)) (cellsT wr.heap.size [.string ⟨#[]⟩, .slice none 0 0] :: cellsT B [.slice a G.length cc, .int .i64 m] :: rowG (.slice a G.length cc) G :: roT (allRo G) :: l)) := Lib.hid (HH.out.cellsNew [.string ⟨#[]⟩, .slice none 0 0] 62)
      clear HH HB hout
      go_upto_region 9 with fail
      generalize wr.alloc (.cells #[.string ⟨#[]⟩, .slice none 0 0] 62) = W0 at *
      generalize wr.heap.size = BG at *
      have b0 := (HX.out.pull 1 rfl).cell 0 rfl
      have b1 := (HX.out.pull 1 rfl).cell 1 rfl
      have FIN : Hid (∀ (ll : List Th) (W : World) (G1 : Gl) (gi : Nat) (vx : Value), (∀ r ∈ G1, r ∈ G) → plainG G1 = roomR m k (plainG G) → Hp o W (rowG vx (G1 ++ [(k, ⟨[n], some ⟨gi, 0, none⟩, 1⟩)]) :: roT (atRo (some ⟨gi, 0, none⟩) [n]) :: roT (allRo G) :: cellsT B [vx, .int .i64 m] :: ll) → Hp o W (refT B (m : Int) (addR k n (roomR m k (plainG G))) :: ll)) := Lib.hid (fun ll W G1 gi vx hs e hh => by
        have h1 := (hh.sel [1, 2] rfl).roTwo (r := allRo (G1 ++ [(k, ⟨[n], some ⟨gi, 0, none⟩, 1⟩)])) fun hp1 hp2 r hr => by
          rcases List.mem_append.1 hr with hr | hr
          · exact hp2 r (hs r hr)
          · rw [List.mem_singleton.1 hr]; exact hp1
        have hko : k ∉ keysL (roomR m k (plainG G)) := fun hm => HO.out ((room_sub m k (plainG G)).map (·.1) |>.subset hm)
        refine ref_shut (G := G1 ++ [(k, ⟨[n], some ⟨gi, 0, none⟩, 1⟩)]) (v := vx) ?_ ?_ (h1.sel [2, 1, 0] rfl)
        · rw [add_new hko, ← e]
          unfold plainG
          rw [List.map_append]; rfl
        · exact (HOK.out.room m k).add HKn.out.1 HKn.out.2)
      by_cases hf : G.length < m
      · have hfc : ¬ ((m : Int) ≤ (G.length : Int)) := by omega
        have HG := Lib.hid (full_no (k := k) (S := plainG G) (m := m) (by rw [plainG_len]; exact hf))
        clear hf
        go_wp2_with fail
        go_big_quiet (fail)
        have HY := Lib.hid (HX.out.bel (drewN_below W0 nq))
        clear HX b0 b1
        generalize W0.drewN nq = W1 at *
        have b0 := (HY.out.pull 1 rfl).cell 0 rfl
        have HZ : Hid (Hp o (W1.alloc (.cells #[.int .i64 n] 3)) (rowG (.slice a G.length cc) G :: roT (atRo (some ⟨W1.heap.size, 0, none⟩) [n]) :: cellsT BG [.string ⟨#[]⟩, .slice none 0 0] :: cellsT B [.slice a G.length cc, .int .i64 m] :: roT (allRo G) :: l)) := Lib.hid ((HY.out.roMade (Sp.bbox (.cells #[.int .i64 n] 3)) (atRo (some ⟨W1.heap.size, 0, none⟩) [n]) fun R hR _ => ⟨W1.heap.size, rfl, hR _ (Nat.le_refl _) (by simp), fun j hj => by
          obtain rfl : j = 0 := by simpa using hj
          rw [World.cell?_alloc_new]; rfl⟩).sel [3, 0, 1, 2] rfl)
        go_wp2_with (at_builtin; refine gPush HZ.out rfl _ _ rfl rfl (k, ⟨[n], some ⟨W1.heap.size, 0, none⟩, 1⟩) rfl (by simp) (by omega) ?_)
        intro v' w' h'
        generalize W1.heap.size = GI at *
        obtain ⟨da, dc, rfl, -, -, -⟩ := Sp.Hp.rowForm (h := h')
        have HV := Lib.hid (h'.pull 3 rfl)
        have d0 := HV.out.cell 0 rfl
        have t0 := HV.out.free 0 rfl
        clear h' HZ HY b0
        generalize hlen : (G ++ [(k, (⟨[n], some ⟨GI, 0, none⟩, 1⟩ : Gw))]).length = gl at *
        have HV2 := Lib.hid (HV.out.cellSet 0 (.slice da gl dc) rfl)
        have c0 := (HV2.out.pull 3 rfl).cell 0 rfl
        have c1 := (HV2.out.pull 3 rfl).cell 1 rfl
        go_wp2_with fail
        go_big_quiet (fail)
        go_wp2_with fail
        go_ret3
        rw [HG.out.1, HG.out.2.2]
        have h8 := HV2.out.bel (drewN_below _ nq)
        refine ⟨none, 0, rfl, ro_none (FIN.out _ _ G GI _ (fun r hr => hr) HG.out.2.1.symm (h8.sel [1, 2, 4, 0] rfl |>.dropAt 4 rfl)) none⟩
      · have hfc : (m : Int) ≤ (G.length : Int) := by omega
        have hpos : 0 < G.length := by omega
        obtain ⟨gb, rfl⟩ := ha hpos
        cases hGc : G with
        | nil => rw [hGc] at hpos; exact absurd hpos (Nat.lt_irrefl _)
        | cons r0 Gt =>
        have HGl : Hid (G.length = Gt.length + 1) := Lib.hid (by rw [hGc]; rfl)
        have HG : Hid (fullR m k (plainG G) = true ∧ roomR m k (plainG G) = plainG Gt ∧ goneR m k (plainG G) = (r0.1, r0.2.ids)) := Lib.hid (by
          have := HO.out
          rw [hGc] at this ⊢
          exact full_yes this (by show m ≤ (plainG Gt).length + 1; rw [plainG_len]; have := HGl.out; omega))
        have HM0 : Hid (r0 ∈ G ∧ ∀ r ∈ Gt, r ∈ G) := Lib.hid (by rw [hGc]; exact ⟨List.mem_cons_self .., fun r hr => List.mem_cons_of_mem _ hr⟩)
        have HCt : Hid (cellsG G = cells2 r0 ++ cellsG Gt) := Lib.hid (by rw [hGc]; rfl)
        have HG0 : Hid (∃ h : 0 < G.length, G[0] = r0) := Lib.hid ⟨hpos, by simp [hGc]⟩
        rw [← hGc]
        clear hf hGc
        go_wp2_with fail
        go_big_quiet (fail)
        have HY := Lib.hid (HX.out.bel (drewN_below W0 nq))
        clear HX b0 b1
        generalize W0.drewN nq = W1 at *
        have b0 := (HY.out.pull 1 rfl).cell 0 rfl
        have g0 := HY.out.cell 0 rfl
        have g1 := HY.out.cell 1 rfl
        have t0 := HY.out.free 0 rfl
        have t1 := HY.out.free 1 rfl
        obtain ⟨e0, e1⟩ := rowG_at (HY.out.pull 2 rfl) HG0.out.1
        rw [HG0.out.2, Nat.zero_mul] at e0 e1
        rw [Nat.zero_add] at e1
        have HZ : Hid (Hp o ((W1.setCell ⟨BG, 0, none⟩ (.string r0.1)).setCell ⟨BG, 1, none⟩ (.slice r0.2.a r0.2.ids.length r0.2.c)) (cellsT BG [.string r0.1, .slice r0.2.a r0.2.ids.length r0.2.c] :: cellsT B [.slice (some ⟨gb, 0, none⟩) G.length cc, .int .i64 m] :: rowG (.slice (some ⟨gb, 0, none⟩) G.length cc) G :: roT (allRo G) :: l)) := Lib.hid ((HY.out.cellSet 0 (.string r0.1) rfl).cellSet 1 (.slice r0.2.a r0.2.ids.length r0.2.c) rfl)
        have hh0 : (0 : Int) < (G.length : Int) := by omega
        go_upto_region 12 with fail
        clear b0 g0 g1 t0 t1 e0 e1 HY
        generalize (W1.setCell ⟨BG, 0, none⟩ (.string r0.1)).setCell ⟨BG, 1, none⟩ (.slice r0.2.a r0.2.ids.length r0.2.c) = W2 at *
        have HZ0 : Hid (Hp o (W2.alloc (.cells #[] 62)) (rowG (.slice (some ⟨W2.heap.size, 0, none⟩) 0 0) [] :: cellsT BG [.string r0.1, .slice r0.2.a r0.2.ids.length r0.2.c] :: cellsT B [.slice (some ⟨gb, 0, none⟩) G.length cc, .int .i64 m] :: rowG (.slice (some ⟨gb, 0, none⟩) G.length cc) G :: roT (allRo G) :: l)) := Lib.hid (rowG_new HZ.out)
        have b0 := (HZ0.out.pull 2 rfl).cell 0 rfl
        have hc1 : 1 ≤ cc := by omega
        have h1l : (1 : Int) ≤ (G.length : Int) := by omega
        have hgt : Gt.length ≤ 100000 := by have := HGl.out; omega
        obtain ⟨off, tl, hoff⟩ : ∃ off tl, (cc = 1 ∧ off = 0 ∧ tl = 0) ∨ (¬ cc = 1 ∧ off = 2 ∧ tl = G.length - 1) := by
          by_cases e : cc = 1
          · exact ⟨0, 0, .inl ⟨e, rfl, rfl⟩⟩
          · exact ⟨_, _, .inr ⟨e, rfl, rfl⟩⟩
        have HNews : Hid (∀ j u, (cellsG Gt)[j]? = some u → (W2.alloc (.cells #[] 62)).cell? ((⟨gb, off, none⟩ : Addr).add j) = some u) := Lib.hid (fun j u hu => by
          have hjt : j < Gt.length * 2 := by
            have := (List.getElem?_eq_some_iff.1 hu).1
            rwa [cellsG_len] at this
          have hgl := HGl.out
          obtain ⟨-, rfl, -⟩ : ¬ cc = 1 ∧ off = 2 ∧ tl = G.length - 1 := by rcases hoff with h | h; exact absurd h.1 (by omega); exact h
          rw [Addr.add_lit, Sp.Hp.rowCell (HZ0.out.pull 3 rfl) (j := 2 + j) (by omega), HCt.out, List.getElem?_append_right (by show 2 ≤ _; omega)]
          show (cellsG Gt)[2 + j - 2]? = _
          rw [Nat.add_sub_cancel_left]
          exact hu)
        have HGt := Lib.hid hgt
        obtain ⟨i0, hi, hz0, hz1, hz2⟩ := info_parts iRow
        have hgl1 : tl = Gt.length := by have := HGl.out; omega
        have HG1 := Lib.hid hgl1
        have HNl : Hid ((cellsG Gt).length = tl * 2) := Lib.hid (by rw [cellsG_len, hgl1])
        clear hgl1
        rcases hoff with ⟨rfl, rfl, rfl⟩ | ⟨hcap, rfl, rfl⟩
        all_goals (
          go_wp2_with (at_builtin; (refine Sp.Hp.rowPush HZ0.out (Below.refl _ _) rfl _ _ 37 rfl i0 _ 40 Try.underlying37 hi hz0 hz1 hz2 rfl (by decide) rfl ⟨gb, _, none⟩ _ _ (cellsG Gt) rfl HNl.out HNews.out (cellsG_one Gt) (by have := HG1.out; show 0 + _ ≤ _; unfold maxLen; omega) (by have := HG1.out; show (0 + _) * 40 ≤ _; omega) ?_))
          intro v5 w5 h5 hst5
          clear hst5
          have h6 := rowG_of h5 (by first | exact HG1.out | (show 0 + _ = _; rw [HG1.out]; exact Nat.zero_add _))
          clear h5
          obtain ⟨pa, pc, rfl, -, -, -⟩ := Sp.Hp.rowForm (h := h6)
          have H5 := Lib.hid (h6.pull 2 rfl)
          have q0 := H5.out.cell 0 rfl
          have q1 := H5.out.free 0 rfl
          have H6 := Lib.hid (H5.out.cellSet 0 (.slice pa Gt.length pc) rfl)
          clear h6 H5 HZ0 HZ b0 hi hz0 hz1 hz2 HNl HNews HG1
          obtain ⟨gtl, hgtl⟩ : ∃ gtl, Hid (Gt.length = gtl) := ⟨_, Lib.hid rfl⟩
          rw [hgtl.out] at H6 ⊢
          go_upto_region 13 with fail
          clear q0 q1
          generalize w5.setCell ⟨B, 0, none⟩ (.slice pa gtl pc) = W3 at *
          have HY : Hid (Hp o W3 (cellsT BG [.string r0.1, .slice r0.2.a r0.2.ids.length r0.2.c] :: cellsT B [.slice pa gtl pc, .int .i64 m] :: rowG (.slice pa gtl pc) Gt :: roT (allRo G) :: l)) := Lib.hid ((H6.out.sel [2, 0, 1, 4] rfl).dropAt 4 rfl)
          clear H6
          have b0 := (HY.out.pull 1 rfl).cell 0 rfl
          have HW : Hid (Hp o (W3.alloc (.cells #[.int .i64 n] 3)) (rowG (.slice pa gtl pc) Gt :: roT (atRo (some ⟨W3.heap.size, 0, none⟩) [n]) :: cellsT BG [.string r0.1, .slice r0.2.a r0.2.ids.length r0.2.c] :: cellsT B [.slice pa gtl pc, .int .i64 m] :: roT (allRo G) :: l)) := Lib.hid ((HY.out.roMade (Sp.bbox (.cells #[.int .i64 n] 3)) (atRo (some ⟨W3.heap.size, 0, none⟩) [n]) fun R hR _ => ⟨W3.heap.size, rfl, hR _ (Nat.le_refl _) (by simp), fun j hj => by
            obtain rfl : j = 0 := by simpa using hj
            rw [World.cell?_alloc_new]; rfl⟩).sel [3, 0, 1, 2] rfl)
          have hgt1 : Gt.length ≤ 1000000 := by have := HGt.out; omega
          go_wp2_with (at_builtin; refine gPush HW.out rfl _ _ rfl rfl (k, ⟨[n], some ⟨W3.heap.size, 0, none⟩, 1⟩) rfl (by simp) hgt1 ?_)
          intro v' w' h'
          generalize W3.heap.size = GI at *
          obtain ⟨da, dc, rfl, -, -, -⟩ := Sp.Hp.rowForm (h := h')
          have HV := Lib.hid (h'.pull 3 rfl)
          have d0 := HV.out.cell 0 rfl
          have t0 := HV.out.free 0 rfl
          clear h' HW HY b0
          generalize hlen : (Gt ++ [(k, (⟨[n], some ⟨GI, 0, none⟩, 1⟩ : Gw))]).length = gl at *
          have HV2 := Lib.hid (HV.out.cellSet 0 (.slice da gl dc) rfl)
          have c0 := (HV2.out.pull 3 rfl).cell 0 rfl
          have c1 := (HV2.out.pull 3 rfl).cell 1 rfl
          go_wp2_with fail
          go_big_quiet (fail)
          go_wp2_with fail
          go_ret3
          rw [HG.out.1, HG.out.2.2]
          have h8 := HV2.out.bel (drewN_below _ nq)
          have h9 := ro_one (h8.pull 4 rfl) HM0.out.1
          exact ⟨r0.2.a, r0.2.c, rfl, (FIN.out _ _ Gt GI _ HM0.out.2 HG.out.2.1.symm (h9.sel [3, 4, 1, 2, 0] rfl |>.dropAt 5 rfl)).swap⟩)
end
end Go.Proofs.Ytkpcobaklbfpcaa.Ka
