/- Layer 12, what Sweep lets go of, one by one: plain. No condition. -/
import Derived.Test.YtmjlhmohglbecaaGreatDoorSaR
import Derived.Test.YtmjlhmohglbecaaGreatDoorSaD
import Derived.Test.YtmjlhmohglbecaaGreatDoorSpB
import Derived.Test.YtmjlhmohglbecaaGreatDoorSaE
import Derived.Deep.RegionHeld3
namespace Go.Proofs.YtmjlhmohglbecaaGreatDoor.Sa
set_option linter.unusedVariables false
set_option linter.unusedSimpArgs false
open Ea (Du UpD dropD inD getD dueD insD ltE)
open Ca (dropK inK)
def dueC (now : Int) (p : Cw) : Prop := 0 ≤ p.t ∧ p.t ≤ now
/-- The one that ended first, of those before place i; or none. -/
def BestI (C : List Cw) (now : Int) (i : Nat) (r : Int) : Prop :=
  (r = -1 ∧ ∀ q (hq : q < C.length), q < i → ¬ dueC now C[q]) ∨ ∃ j, ∃ hj : j < C.length, j < i ∧ r = (j : Int) ∧ dueC now C[j] ∧ ∀ q (hq : q < C.length), q < i → dueC now C[q] → ltE (C[q].t, C[q].k) (C[j].t, C[j].k) = false
theorem BestI.zero (C : List Cw) (now : Int) : BestI C now 0 (-1) := .inl ⟨rfl, fun q hq h => absurd h (Nat.not_lt_zero _)⟩
theorem BestI.skip {C : List Cw} {now r : Int} {i : Nat} (h : BestI C now i r) (hi : i < C.length) (hd : ¬ dueC now C[i]) : BestI C now (i + 1) r := by
  rcases h with ⟨e, h⟩ | ⟨j, hj, hji, e, hdj, h⟩
  · refine .inl ⟨e, fun q hq hqi => ?_⟩
    by_cases e2 : q = i
    · subst e2; exact hd
    · exact h q hq (by omega)
  · refine .inr ⟨j, hj, by omega, e, hdj, fun q hq hqi hdq => ?_⟩
    by_cases e2 : q = i
    · subst e2; exact absurd hdq hd
    · exact h q hq (by omega) hdq
theorem BestI.first {C : List Cw} {now : Int} {i : Nat} (h : BestI C now i (-1)) (hi : i < C.length) (hd : dueC now C[i]) : BestI C now (i + 1) i := by
  rcases h with ⟨-, h⟩ | ⟨j, hj, hji, e, hdj, h⟩
  · refine .inr ⟨i, hi, by omega, rfl, hd, fun q hq hqi hdq => ?_⟩
    by_cases e2 : q = i
    · subst e2; exact Ea.ltE_irrefl _
    · exact absurd hdq (h q hq (by omega))
  · omega
theorem BestI.better {C : List Cw} {now : Int} {i j : Nat} (h : BestI C now i j) (hi : i < C.length) (hj : j < C.length) (hd : dueC now C[i]) (hlt : ltE (C[i].t, C[i].k) (C[j].t, C[j].k) = true) : BestI C now (i + 1) i := by
  rcases h with ⟨e, -⟩ | ⟨j2, hj2, hji, e, hdj, h⟩
  · omega
  · obtain rfl : j = j2 := by omega
    refine .inr ⟨i, hi, by omega, rfl, hd, fun q hq hqi hdq => ?_⟩
    by_cases e2 : q = i
    · subst e2; exact Ea.ltE_irrefl _
    · cases hh : ltE (C[q].t, C[q].k) (C[i].t, C[i].k) with
      | false => rfl
      | true =>
        have := Ea.ltE_trans hh hlt
        rw [h q hq (by omega) hdq] at this
        cases this
theorem BestI.worse {C : List Cw} {now : Int} {i j : Nat} (h : BestI C now i j) (hi : i < C.length) (hj : j < C.length) (hlt : ltE (C[i].t, C[i].k) (C[j].t, C[j].k) = false) : BestI C now (i + 1) j := by
  rcases h with ⟨e, -⟩ | ⟨j2, hj2, hji, e, hdj, h⟩
  · omega
  · obtain rfl : j = j2 := by omega
    refine .inr ⟨j, hj, by omega, rfl, hdj, fun q hq hqi hdq => ?_⟩
    by_cases e2 : q = i
    · subst e2; exact hlt
    · exact h q hq (by omega) hdq
theorem BestI.rng {C : List Cw} {now r : Int} {i : Nat} (h : BestI C now i r) : r = -1 ∨ ∃ j, ∃ hj : j < C.length, r = (j : Int) := by
  rcases h with ⟨e, -⟩ | ⟨j, hj, hji, e, -⟩
  · exact .inl e
  · exact .inr ⟨j, hj, e⟩
section
variable {C : List Cw} {m : Md}
theorem rep_due (h : RepC C m) {t : Int} {k : ByteArray} (hm : (t, k) ∈ m.S) : ∃ j, ∃ hj : j < C.length, C[j].k = k ∧ C[j].t = t := by
  have hk := h.pre.sk _ hm
  obtain ⟨j, hj, e, -, ht⟩ := h.at_ (Ca.inK_iff.2 hk)
  exact ⟨j, hj, e, by rw [ht, when_in h.pre.sn hm]⟩
theorem rep_mem (h : RepC C m) {j : Nat} (hj : j < C.length) (h0 : 0 ≤ C[j].t) : (C[j].t, C[j].k) ∈ m.S := by
  have ht := (h.it _ (List.getElem_mem hj)).2
  by_cases hx : ∃ t, (t, C[j].k) ∈ m.S
  · obtain ⟨t, hm⟩ := hx
    rw [ht, when_in h.pre.sn hm]
    exact hm
  · rw [ht, when_out fun t hm => hx ⟨t, hm⟩] at h0
    omega
theorem sweep_none (h : RepC C m) {now : Int} (hb : BestI C now C.length (-1)) (most : Int) : dueK now most m = [] := by
  have : m.S.filter (fun d => decide (d.1 ≤ now)) = [] := by
    rw [List.filter_eq_nil_iff]
    intro d hd hn
    obtain ⟨j, hj, e1, e2⟩ := rep_due h (t := d.1) (k := d.2) hd
    rcases hb with ⟨-, hb⟩ | ⟨j2, -, -, e, -⟩
    · refine hb j hj hj ⟨?_, ?_⟩
      · rw [e2]; exact (h.pre.sr d hd).1
      · rw [e2]; exact of_decide_eq_true hn
    · omega
  unfold dueK Ea.dueD
  rw [this]
  simp
theorem sweep_next (h : RepC C m) {now : Int} {j : Nat} (hj : j < C.length) (hb : BestI C now C.length j) {most : Int} (hm : 0 < most) : dueK now most m = C[j].k :: dueK now (most - 1) (goneM C[j].k 3 m) := by
  obtain ⟨hd, hmin⟩ : dueC now C[j] ∧ ∀ q (hq : q < C.length), q < C.length → dueC now C[q] → ltE (C[q].t, C[q].k) (C[j].t, C[j].k) = false := by
    rcases hb with ⟨e, -⟩ | ⟨j2, hj2, -, e, hd, h⟩
    · omega
    · obtain rfl : j = j2 := by omega
      exact ⟨hd, h⟩
  have hmem := rep_mem h hj hd.1
  have hf : (C[j].t, C[j].k) ∈ m.S.filter (fun d => decide (d.1 ≤ now)) := List.mem_filter.2 ⟨hmem, decide_eq_true hd.2⟩
  have hup : UpD (m.S.filter (fun d => decide (d.1 ≤ now))) := List.Pairwise.filter _ h.pre.up
  have hin : inK C[j].k m.K = true := Ca.inK_iff.2 (h.pre.sk _ hmem)
  obtain ⟨x, r, hx⟩ : ∃ x r, m.S.filter (fun d => decide (d.1 ≤ now)) = x :: r := by
    cases e : m.S.filter (fun d => decide (d.1 ≤ now)) with
    | nil => rw [e] at hf; cases hf
    | cons x r => exact ⟨x, r, rfl⟩
  have hxm : x ∈ m.S ∧ x.1 ≤ now := by
    have h1 : x ∈ m.S.filter (fun d => decide (d.1 ≤ now)) := by rw [hx]; exact List.mem_cons_self ..
    have h2 := List.mem_filter.1 h1
    exact ⟨h2.1, of_decide_eq_true h2.2⟩
  have hxe : x = (C[j].t, C[j].k) := by
    rw [hx] at hf hup
    rcases List.mem_cons.1 hf with e | hr
    · exact e.symm
    · have h1 := (List.pairwise_cons.1 hup).1 _ hr
      obtain ⟨q, hq, e1, e2⟩ := rep_due h (t := x.1) (k := x.2) hxm.1
      have h2 := hmin q hq hq ⟨by rw [e2]; exact (h.pre.sr x hxm.1).1, by rw [e2]; exact hxm.2⟩
      rw [e1, e2] at h2
      rw [show x = (x.1, x.2) from rfl, h2] at h1
      cases h1
  have hS : (goneM C[j].k 3 m).S = dropD C[j].k m.S := by unfold goneM; rw [if_pos hin]; rfl
  have hr : (dropD C[j].k m.S).filter (fun d => decide (d.1 ≤ now)) = r := by
    unfold dropD
    rw [List.filter_filter]
    have e : m.S.filter (fun d => decide (d.1 ≤ now) && !decide (d.2 = C[j].k)) = (m.S.filter (fun d => decide (d.1 ≤ now))).filter (fun d => !decide (d.2 = C[j].k)) := by
      rw [List.filter_filter]
      exact List.filter_congr fun d _ => Bool.and_comm _ _
    rw [e, hx, hxe, List.filter_cons_of_neg (by simp)]
    refine List.filter_eq_self.2 fun d hd => ?_
    have hn : ((m.S.filter (fun d => decide (d.1 ≤ now))).map (·.2)).Nodup := h.pre.sn.sublist (List.Sublist.map _ List.filter_sublist)
    rw [hx, hxe, List.map_cons] at hn
    have := (List.nodup_cons.1 hn).1
    have hne : d.2 ≠ C[j].k := fun e => this (List.mem_map.2 ⟨d, hd, e⟩)
    simpa using hne
  obtain ⟨n, hn⟩ : ∃ n, most.toNat = n + 1 := ⟨most.toNat - 1, by omega⟩
  unfold dueK Ea.dueD
  rw [hS, hr, hx, hn, List.take_succ_cons, List.map_cons, hxe, show (most - 1).toNat = n by omega]
theorem due_zero (now : Int) {most : Int} (hm : most ≤ 0) (m : Md) : dueK now most m = [] := by
  unfold dueK Ea.dueD
  rw [show most.toNat = 0 by omega]
  simp
end
end Go.Proofs.YtmjlhmohglbecaaGreatDoor.Sa
/- Layer 12, the checking package's Sweep. Conditions: its Store as it lies; bounds. -/
namespace Go.Proofs.YtmjlhmohglbecaaGreatDoor.Sa
set_option linter.unusedVariables false
set_option linter.unusedSimpArgs false
open Go.ChangeShapes Go.WideShapes Go.ChangeAt Go.RowKit
open Sp (Th Hp Stays All Ro roT rowT cellsT exT puT star)
section
variable {o w w' wb : World} {l : List Th} {B : Nat} {m : Md}
set_option maxHeartbeats 32000000 in
set_option maxRecDepth 100000 in
theorem rsweep_calls (h : Hp o w (refT B m :: l)) (hw : Below w.heap.size w wb) (now most : Int) (hm1 : -9223372036854775808 ≤ most) (hm2 : most ≤ 9223372036854775807) (hn : m.K.length ≤ 900) (he : m.ev.length ≤ 10000) :
    Calls Tryz.prog 38 #[.pointer (some ⟨B, 0, none⟩), .int .i64 now, .int .i64 most] wb fun e w' => e = .returned (.int .i64 (dueK now most m).length) ∧ Hp o w' (refT B (swM (dueK now most m) m) :: l) := by
  have H0 := Lib.hid (h.bel hw)
  obtain ⟨M, hM⟩ : ∃ M, swM (dueK now most m) m = M := ⟨_, rfl⟩
  obtain ⟨Z, hZ⟩ : ∃ Z, (dueK now most m).length = Z := ⟨_, rfl⟩
  rw [hM, hZ]
  have hzz : Z ≤ 900 := by
    rw [← hZ]
    obtain ⟨cv, C, ev, hr, -⟩ := ref_open H0.out
    have h1 := dueK_len now most m
    have h2 := hr.pre.sl
    omega
  have HS0 : Hid (swM (dueK now (most - (0 : Nat)) m) m = M ∧ (0 : Nat) + (dueK now (most - (0 : Nat)) m).length = Z) := Lib.hid (by rw [show most - ((0 : Nat) : Int) = most by omega]; exact ⟨hM, by omega⟩)
  have HN0 : Hid (m.K.length ≤ 900 ∧ m.ev.length + m.K.length ≤ 11000) := Lib.hid ⟨hn, by omega⟩
  clear h hw hM hZ hn he
  go_enter Tryz.func38, Tryz.ntmps38
  go_wp2_with fail
  go_loopg [7, 8, 9, 10] 902 (fun g vn _ _ _ wr => ∃ (n : Nat) (mc : Md), vn = .int .i64 n ∧ Hid (swM (dueK now (most - n) mc) mc = M ∧ n + (dueK now (most - n) mc).length = Z) ∧ Hid (mc.K.length ≤ 900 ∧ mc.ev.length + mc.K.length ≤ 11000) ∧ mc.K.length + 1 ≤ g ∧ n ≤ Z ∧ Hid (Hp o wr (refT B mc :: l)))
  case atStart => exact ⟨0, m, rfl, HS0, HN0, by have := HN0.out.1; omega, Nat.zero_le _, H0⟩
  case round =>
    obtain ⟨n, mc, rfl, HS, HN, hg, hnZ, HH⟩ := hrel
    clear H0 HS0 HN0
    by_cases hnm : (n : Int) < most
    case neg =>
      have HV : Hid (mc = M ∧ n = Z) := Lib.hid (by
        have h1 := HS.out
        rw [due_zero now (by omega)] at h1
        exact ⟨h1.1, by have := h1.2; simp at this; exact this⟩)
      go_wp2_with fail
      go_ret
      exact ⟨by rw [← HV.out.2]; rfl, by rw [← HV.out.1]; exact HH.out⟩
    case pos =>
      obtain ⟨cv, C, ev, hr, h2⟩ := ref_open HH.out
      have hcl : C.length ≤ 900 := by rw [hr.len]; exact HN.out.1
      obtain ⟨a, cc, rfl, -, hcc, ha⟩ := (h2.pull 1 rfl).rowForm
      have c0 := h2.cell 0 rfl
      have HR := Lib.hid hr
      have H2 := Lib.hid h2
      clear hr h2 HH
      go_wp2_with fail
      obtain ⟨gO, rfl⟩ : ∃ gO : Nat, gO = gk := ⟨_, rfl⟩
      clear c0
      go_loopg [8, 9, 10, 19] (C.length + 1) (fun g2 vb _ _ vi wr => ∃ (i : Nat) (r : Int), vi = .int .i64 i ∧ i ≤ C.length ∧ C.length - i ≤ g2 ∧ vb = .int .i64 r ∧ Hid (BestI C now i r) ∧ Hid (Hp o wr (cellsT B [.slice a C.length cc, .int .i64 mc.b, ev] :: rowC (.slice a C.length cc) C :: evsT ev mc.ev :: roT (rowsC C) :: l)))
      case atStart => exact ⟨0, -1, rfl, by omega, by omega, rfl, Lib.hid (BestI.zero C now), H2⟩
      case round =>
        obtain ⟨i, r, rfl, hi, hg2, rfl, HB, HH⟩ := hrel
        clear H2
        by_cases hil : i < C.length
        case neg =>
          have hic : ¬ ((i : Int) < (C.length : Int)) := by omega
          obtain rfl : i = C.length := by omega
          rcases HB.out.rng with rfl | ⟨j, hj, rfl⟩
          · have HV : Hid (mc = M ∧ n = Z) := Lib.hid (by
              have h1 := HS.out
              rw [sweep_none HR.out HB.out] at h1
              exact ⟨h1.1, by have := h1.2; simp at this; exact this⟩)
            go_wp2_with fail
            go_ret
            exact ⟨by rw [← HV.out.2]; rfl, by rw [← HV.out.1]; exact ref_shut HR.out rfl rfl HH.out⟩
          · obtain ⟨gb, rfl⟩ := ha (by omega)
            have hjc : (j : Int) < (C.length : Int) := by omega
            obtain ⟨d0, -⟩ := cell5 (HH.out.pull 1 rfl) hj
            have c0 := HH.out.cell 0 rfl
            have hjK : C[j].k ∈ mc.K := by rw [← HR.out.ks]; exact List.mem_map_of_mem (List.getElem_mem hj)
            have hlen : mc.K.length = (Ca.dropK C[j].k mc.K).length + 1 := dropK_lenM HR.out.pre.kn hjK
            have HG := Lib.hid (rgone_calls (ref_shut HR.out rfl rfl HH.out) (Below.refl _ _) C[j].k 3 (by decide) (by decide) (by have := HN.out.1; omega) (by have := HN.out.2; omega))
            have hge : goneM C[j].k 3 mc = loseM C[j].k 3 mc := goneM_in (Ca.inK_iff.2 hjK)
            have h3 := HS.out
            rw [sweep_next HR.out hj HB.out (by omega), show most - (n : Int) - 1 = most - ((n + 1 : Nat) : Int) by omega] at h3
            have HS2 : Hid (swM (dueK now (most - ((n + 1 : Nat) : Int)) (goneM C[j].k 3 mc)) (goneM C[j].k 3 mc) = M ∧ (n + 1) + (dueK now (most - ((n + 1 : Nat) : Int)) (goneM C[j].k 3 mc)).length = Z) := Lib.hid ⟨h3.1, by have := h3.2; simp only [List.length_cons] at this; omega⟩
            have hz3 : n + 1 ≤ Z := by have := HS2.out.2; omega
            have hl3 : (goneM C[j].k 3 mc).K.length + 1 = mc.K.length := by rw [hge]; exact hlen.symm
            have HN2 : Hid ((goneM C[j].k 3 mc).K.length ≤ 900 ∧ (goneM C[j].k 3 mc).ev.length + (goneM C[j].k 3 mc).K.length ≤ 11000) := Lib.hid ⟨by have := HN.out.1; omega, by have := HN.out.2; have := gone_ev C[j].k 3 mc; omega⟩
            clear hjK hlen h3 hge ha
            generalize goneM C[j].k 3 mc = m3 at *
            generalize C[j].k = k at *
            go_wp2_with fail
            refine HG.out.mono ?_; rintro en w5 ⟨rfl, h5⟩
            have H5 := Lib.hid h5
            clear h5 HG c0 d0
            go_wp2_with fail
            go_roundg (gO - 1)
            case measure => omega
            case rel => exact ⟨n + 1, m3, by go_num, HS2, HN2, by omega, hz3, H5⟩
        case pos =>
          have hic : (i : Int) < (C.length : Int) := by omega
          obtain ⟨gb, rfl⟩ := ha (by omega)
          obtain ⟨d0, d1, d2, d3, d4⟩ := cell5 (HH.out.pull 1 rfl) hil
          have HX := Lib.hid (HH.out.bel (Sp.bbox (w := wr) (.cells #[.string C[i].k, .int .i64 C[i].i.k, .string C[i].i.t, .slice C[i].a C[i].i.l.length C[i].c, .int .i64 C[i].t] 87)))
          by_cases hdue : dueC now C[i]
          case neg =>
            have HB2 := Lib.hid (HB.out.skip hil hdue)
            have hd : C[i].t < 0 ∨ (0 ≤ C[i].t ∧ now < C[i].t) := by unfold dueC at hdue; omega
            clear HH hdue ha
            generalize C[i].t = t at *
            rcases hd with hd | ⟨hd0, hd⟩
            all_goals go_wp2_with fail
            all_goals go_roundg (gk - 1)
            all_goals first
              | omega
              | exact ⟨i + 1, r, by go_num, by omega, by omega, rfl, HB2, HX⟩
          case pos =>
            have hdd := hdue
            obtain ⟨hd0, hd1⟩ := hdd
            have HY := Lib.hid (HH.out.cellsNew [.string C[i].k, .int .i64 C[i].i.k, .string C[i].i.t, .slice C[i].a C[i].i.l.length C[i].c, .int .i64 C[i].t] 87)
            have HX2 : Hid (Hp o (wr.alloc (.cells #[.string C[i].k, .int .i64 C[i].i.k, .string C[i].i.t, .slice C[i].a C[i].i.l.length C[i].c, .int .i64 C[i].t] 87)) (cellsT wr.heap.size [.string C[i].k, .int .i64 C[i].i.k, .string C[i].i.t, .slice C[i].a C[i].i.l.length C[i].c, .int .i64 C[i].t] :: cellsT B [.slice (some ⟨gb, 0, none⟩) C.length cc, .int .i64 mc.b, ev] :: rowC (.slice (some ⟨gb, 0, none⟩) C.length cc) C :: evsT ev mc.ev :: roT (rowsC C) :: l)) := HY
            clear HH HX HY ha
            go_upto_region 8 with fail
            generalize wr.alloc (.cells #[.string C[i].k, .int .i64 C[i].i.k, .string C[i].i.t, .slice C[i].a C[i].i.l.length C[i].c, .int .i64 C[i].t] 87) = W1 at *
            generalize wr.heap.size = BX at *
            clear d0 d1 d2 d3 d4
            have b0 := HX2.out.cell 0 rfl
            have b4 := HX2.out.cell 4 rfl
            have c0 := (HX2.out.pull 1 rfl).cell 0 rfl
            have HX := Lib.hid HX2.out.drop
            rcases HB.out.rng with rfl | ⟨j, hj, rfl⟩
            · have HB2 := Lib.hid (HB.out.first hil hdue)
              clear hdue HX2 HB
              generalize C[i].t = t at *
              generalize C[i].k = k at *
              go_quiet (fail)
              go_wp2_with fail
              go_roundg (gk - 1)
              case measure => omega
              case rel => exact ⟨i + 1, (i : Int), by go_num, by omega, by omega, rfl, HB2, Lib.hid (HX.out.bel (Ta.drewN_below W1 _))⟩
            · have hjc : (j : Int) < (C.length : Int) := by omega
              have hj0 : decide ((j : Int) < 0) = false := decide_eq_false (by omega)
              obtain ⟨e0, -, -, -, e4⟩ := cell5 (HX2.out.pull 2 rfl) hj
              cases hlt : Ea.ltE (C[i].t, C[i].k) (C[j].t, C[j].k) with
              | true =>
                have HB2 := Lib.hid (HB.out.better hil hj hdue hlt)
                have hq : C[i].t < C[j].t ∨ C[i].t = C[j].t ∧ Op.bytesLess C[i].k.toList C[j].k.toList = true := Ea.ltE_iff.1 hlt
                clear hdue HX2 HB hlt
                generalize C[i].t = t at *
                generalize C[i].k = k at *
                generalize C[j].t = t2 at *
                generalize C[j].k = k2 at *
                rcases hq with hq | ⟨rfl, hq⟩
                · have hdq : decide (t < t2) = true := decide_eq_true hq
                  go_big_quiet (fail)
                  go_wp2_with fail
                  go_roundg (gk - 1)
                  case measure => omega
                  case rel => exact ⟨i + 1, (i : Int), by go_num, by omega, by omega, rfl, HB2, Lib.hid (HX.out.bel (Ta.drewN_below W1 _))⟩
                · have hdq : decide (t < t) = false := decide_eq_false (by omega)
                  have heq : (t == t) = true := beq_self_eq_true t
                  go_big_quiet (fail)
                  go_wp2_with fail
                  go_roundg (gk - 1)
                  case measure => omega
                  case rel => exact ⟨i + 1, (i : Int), by go_num, by omega, by omega, rfl, HB2, Lib.hid (HX.out.bel (Ta.drewN_below W1 _))⟩
              | false =>
                have HB2 := Lib.hid (HB.out.worse hil hj hlt)
                have hq : C[j].t < C[i].t ∨ C[i].t = C[j].t ∧ Op.bytesLess C[i].k.toList C[j].k.toList = false := by
                  have h1 : ¬ (C[i].t < C[j].t ∨ C[i].t = C[j].t ∧ Ea.ltK C[i].k C[j].k = true) := fun h => by
                    rw [Ea.ltE_iff.2 h] at hlt; cases hlt
                  rcases Int.lt_trichotomy C[i].t C[j].t with h | h | h
                  · exact absurd (.inl h) h1
                  · refine .inr ⟨h, ?_⟩
                    cases e : Op.bytesLess C[i].k.toList C[j].k.toList with
                    | false => rfl
                    | true => exact absurd (.inr ⟨h, e⟩) h1
                  · exact .inl h
                clear hdue HX2 HB hlt
                generalize C[i].t = t at *
                generalize C[i].k = k at *
                generalize C[j].t = t2 at *
                generalize C[j].k = k2 at *
                rcases hq with hq | ⟨rfl, hq⟩
                · have hdq : decide (t < t2) = false := decide_eq_false (by omega)
                  have heq : (t == t2) = false := by rw [beq_eq_false_iff_ne]; omega
                  go_big_quiet (fail)
                  go_wp2_with fail
                  go_roundg (gk - 1)
                  case measure => omega
                  case rel => exact ⟨i + 1, (j : Int), by go_num, by omega, by omega, rfl, HB2, Lib.hid (HX.out.bel (Ta.drewN_below W1 _))⟩
                · have hdq : decide (t < t) = false := decide_eq_false (by omega)
                  have heq : (t == t) = true := beq_self_eq_true t
                  go_big_quiet (fail)
                  go_wp2_with fail
                  go_roundg (gk - 1)
                  case measure => omega
                  case rel => exact ⟨i + 1, (j : Int), by go_num, by omega, by omega, rfl, HB2, Lib.hid (HX.out.bel (Ta.drewN_below W1 _))⟩
end
end Go.Proofs.YtmjlhmohglbecaaGreatDoor.Sa
/- Layer 12, the checking package's Keys. Conditions: its Store as it lies; bounds. -/
namespace Go.Proofs.YtmjlhmohglbecaaGreatDoor.Sa
set_option linter.unusedVariables false
set_option linter.unusedSimpArgs false
open Go.ChangeShapes Go.WideShapes Go.ChangeAt Go.RowKit
open Sp (Th Hp Stays All Ro roT rowT cellsT exT puT star)
open Ea (ltK)
/-- A key put in its place. -/
def insK (L : List ByteArray) (p : Nat) (k : ByteArray) : List ByteArray := L.take p ++ [k] ++ L.drop p
theorem insK_len {L : List ByteArray} {p : Nat} (hp : p ≤ L.length) (k : ByteArray) : (insK L p k).length = L.length + 1 := by
  unfold insK
  simp only [List.length_append, List.length_take, List.length_drop, List.length_singleton]
  omega
theorem keys_ins {L K : List ByteArray} {k : ByteArray} {p : Nat} (h : KeysOf L K) (hk : k ∉ K) (hp : p ≤ L.length) (h1 : ∀ i (hi : i < L.length), i < p → ltK L[i] k = true) (h2 : ∀ (hi : p < L.length), ltK L[p] k = false) : KeysOf (insK L p k) (K ++ [k]) := by
  have hsplit : L = L.take p ++ L.drop p := (List.take_append_drop p L).symm
  have hup := h.up
  refine ⟨fun x => ?_, ?_, by rw [insK_len hp, List.length_append, h.len]; rfl⟩
  · unfold insK
    rw [List.mem_append, List.mem_append, List.mem_append, ← h.mem]
    conv => rhs; rw [hsplit, List.mem_append]
    constructor
    · rintro ((h | h) | h)
      · exact .inl (.inl h)
      · exact .inr h
      · exact .inl (.inr h)
    · rintro ((h | h) | h)
      · exact .inl (.inl h)
      · exact .inr h
      · exact .inl (.inr h)
  · rw [hsplit] at hup
    obtain ⟨u1, u2, u3⟩ := List.pairwise_append.1 hup
    have hlow : ∀ a ∈ L.take p, ltK a k = true := fun a ha => by
      obtain ⟨i, hi, rfl⟩ := List.mem_iff_getElem.1 ha
      rw [List.length_take] at hi
      rw [List.getElem_take]
      exact h1 i (by omega) (by omega)
    have hhigh : ∀ b ∈ L.drop p, ltK k b = true := fun b hb => by
      by_cases hpl : p < L.length
      · have hf := h2 hpl
        have hne : ∀ x ∈ L, x ≠ k := fun x hx e => hk ((h.mem k).1 (e ▸ hx))
        have hfirst : ltK k L[p] = true := by
          cases e : ltK k L[p] with
          | true => rfl
          | false => exact absurd (Ea.ltK_total hf e) (hne _ (List.getElem_mem hpl))
        rw [List.drop_eq_getElem_cons hpl] at hb u2
        rcases List.mem_cons.1 hb with e | hb
        · rw [e]; exact hfirst
        · exact Ea.ltK_trans hfirst ((List.pairwise_cons.1 u2).1 b hb)
      · rw [List.drop_eq_nil_of_le (by omega)] at hb
        cases hb
    unfold insK
    rw [List.append_assoc]
    refine List.pairwise_append.2 ⟨u1, ?_, fun a ha b hb => ?_⟩
    · refine List.pairwise_cons.2 ⟨fun b hb => hhigh b hb, u2⟩
    · rcases List.mem_cons.1 hb with e | hb
      · rw [e]; exact hlow a ha
      · exact u3 a ha b hb
theorem keysOf_nil : KeysOf [] [] := ⟨fun k => Iff.rfl, List.Pairwise.nil, rfl⟩
theorem keysOf_eq {A C K : List ByteArray} (h1 : KeysOf A K) (h2 : KeysOf C K) : A = C := by
  have key : ∀ (A C : List ByteArray), A.Pairwise (fun a b => ltK a b = true) → C.Pairwise (fun a b => ltK a b = true) → (∀ x, x ∈ A ↔ x ∈ C) → A = C := by
    intro A
    induction A with
    | nil =>
      intro C _ _ h
      cases C with
      | nil => rfl
      | cons c C => exact absurd ((h c).2 (List.mem_cons_self ..)) (by simp)
    | cons a A ih =>
      intro C hA hC h
      cases C with
      | nil => exact absurd ((h a).1 (List.mem_cons_self ..)) (by simp)
      | cons c C =>
        have pa := List.pairwise_cons.1 hA
        have pc := List.pairwise_cons.1 hC
        have irr : ∀ x, ltK x x = true → False := fun x hx => by rw [Ea.ltK_irrefl] at hx; cases hx
        have e : a = c := by
          rcases List.mem_cons.1 ((h a).1 (List.mem_cons_self ..)) with e | h1
          · exact e
          · rcases List.mem_cons.1 ((h c).2 (List.mem_cons_self ..)) with e | h2
            · exact e.symm
            · exact (irr a (Ea.ltK_trans (pa.1 c h2) (pc.1 a h1))).elim
        subst e
        rw [ih C pa.2 pc.2 fun x => ⟨fun hx => ?_, fun hx => ?_⟩]
        · rcases List.mem_cons.1 ((h x).1 (List.mem_cons_of_mem _ hx)) with e | h1
          · subst e; exact (irr x (pa.1 x hx)).elim
          · exact h1
        · rcases List.mem_cons.1 ((h x).2 (List.mem_cons_of_mem _ hx)) with e | h1
          · subst e; exact (irr x (pc.1 x hx)).elim
          · exact h1
  exact key A C h1.up h2.up fun x => (h1.mem x).trans (h2.mem x).symm
section
variable {o w w' wb : World} {l : List Th} {B : Nat} {m : Md}
theorem iStr : (Tryz.prog.info? 9).map (fun i => (i.zero, i.size, i.bytes)) = some (some (.string ⟨#[]⟩), 1, 16) := by kernel_rfl
theorem str_one (L : List ByteArray) : ∀ u ∈ Ea.cellsT L, u.oneCell' = true := fun u hu => by
  unfold Ea.cellsT at hu
  obtain ⟨x, -, rfl⟩ := List.mem_map.1 hu
  rfl
theorem str_at (L : List ByteArray) {i : Nat} (hi : i < L.length) : (Ea.cellsT L)[i]? = some (.string L[i]) := by unfold Ea.cellsT; simp [hi]
set_option maxHeartbeats 32000000 in
set_option maxRecDepth 100000 in
theorem rkeys_calls (h : Hp o w (refT B m :: l)) (hw : Below w.heap.size w wb) (hn : m.K.length ≤ 900) :
    Calls Tryz.prog 19 #[.pointer (some ⟨B, 0, none⟩)] wb fun e w' => ∃ (L : List ByteArray) (g c : Nat), e = .returned (.slice (some ⟨g, 0, none⟩) L.length c) ∧ KeysOf L m.K ∧ Hp o w' (rowT 9 1 (.slice (some ⟨g, 0, none⟩) L.length c) L.length (Ea.cellsT L) :: refT B m :: l) := by
  obtain ⟨cv, C, ev, hr, h2⟩ := ref_open (h.bel hw)
  have hcl : C.length ≤ 900 := by rw [hr.len]; exact hn
  obtain ⟨a, cc, rfl, -, hcc, ha⟩ := (h2.pull 1 rfl).rowForm
  have HR := Lib.hid hr
  have hA0 := h2.rowAdd (w' := wb.alloc (.cells #[] 9)) (e := 9) (size := 1) (v := .slice (some ⟨wb.heap.size, 0, none⟩) 0 0) (n := 0) (xs := []) (Sp.bbox _) (World.ownsRow_made wb #[] 0 (Nat.le_refl _) (Nat.zero_le _) rfl) (Nat.le_refl _)
  have H0 : Hid (Hp o (wb.alloc (.cells #[] 9)) (rowT 9 1 (.slice (some ⟨wb.heap.size, 0, none⟩) ([] : List ByteArray).length 0) ([] : List ByteArray).length (Ea.cellsT []) :: cellsT B [.slice a C.length cc, .int .i64 m.b, ev] :: rowC (.slice a C.length cc) C :: evsT ev m.ev :: roT (rowsC C) :: l)) := Lib.hid hA0
  have c0 := (H0.out.pull 1 rfl).cell 0 rfl
  have HK0 : Hid (KeysOf [] ((C.take 0).map (·.k))) := Lib.hid keysOf_nil
  clear h hw h2 hr hA0 hn
  go_enter Tryz.func19, Tryz.ntmps19
  go_wp2_with fail
  generalize wb.alloc (.cells #[] 9) = W0 at *
  generalize wb.heap.size = G0 at *
  clear c0
  go_loopg [3, 5, 6, 7, 14] (C.length + 1) (fun g vo _ _ _ vi wr => ∃ (j : Nat) (L : List ByteArray) (og oc : Nat), vi = .int .i64 j ∧ j ≤ C.length ∧ C.length - j ≤ g ∧ vo = .slice (some ⟨og, 0, none⟩) L.length oc ∧ Hid (L.length = j) ∧ L.length ≤ 900 ∧ L.length ≤ oc ∧ oc ≤ 9223372036854775807 ∧ Hid (KeysOf L ((C.take j).map (·.k))) ∧ Hid (Hp o wr (rowT 9 1 (.slice (some ⟨og, 0, none⟩) L.length oc) L.length (Ea.cellsT L) :: cellsT B [.slice a C.length cc, .int .i64 m.b, ev] :: rowC (.slice a C.length cc) C :: evsT ev m.ev :: roT (rowsC C) :: l)))
  case atStart => exact ⟨0, [], G0, 0, rfl, by omega, by omega, rfl, Lib.hid rfl, by simp, by simp, by omega, HK0, H0⟩
  case round =>
    obtain ⟨j, L, og, oc, rfl, hj, hg, rfl, HLj, hL9, hLo, hoc, HK, HH⟩ := hrel
    clear H0 HK0
    by_cases hjl : j < C.length
    case neg =>
      have hjc : ¬ ((j : Int) < (C.length : Int)) := by omega
      obtain rfl : j = C.length := by omega
      rw [List.take_length] at HK
      go_wp2_with fail
      go_ret
      refine ⟨L, og, oc, rfl, by rw [← HR.out.ks]; exact HK.out, ?_⟩
      exact (ref_shut HR.out rfl rfl (((((HH.out.pull 0 rfl).push 4).pull 0 rfl)))).pull 1 rfl
    case pos =>
      have hjc : (j : Int) < (C.length : Int) := by omega
      obtain ⟨gb, rfl⟩ := ha (by omega)
      obtain ⟨d0, d1, d2, d3, d4⟩ := cell5 (HH.out.pull 2 rfl) hjl
      have HX : Hid (Hp o (wr.alloc (.cells #[.string C[j].k, .int .i64 C[j].i.k, .string C[j].i.t, .slice C[j].a C[j].i.l.length C[j].c, .int .i64 C[j].t] 87)) (cellsT wr.heap.size [.string C[j].k, .int .i64 C[j].i.k, .string C[j].i.t, .slice C[j].a C[j].i.l.length C[j].c, .int .i64 C[j].t] :: rowT 9 1 (.slice (some ⟨og, 0, none⟩) L.length oc) L.length (Ea.cellsT L) :: cellsT B [.slice (some ⟨gb, 0, none⟩) C.length cc, .int .i64 m.b, ev] :: rowC (.slice (some ⟨gb, 0, none⟩) C.length cc) C :: evsT ev m.ev :: roT (rowsC C) :: l)) := Lib.hid (HH.out.cellsNew _ 87)
      have HKN : Hid (C[j].k ∉ (C.take j).map (·.k)) := Lib.hid (fun hm => by
        obtain ⟨q, hq, e⟩ := List.mem_map.1 hm
        obtain ⟨i, hi, rfl⟩ := List.mem_iff_getElem.1 hq
        rw [List.length_take] at hi
        rw [List.getElem_take] at e
        have := nd_ne HR.out.nd (by omega) hjl e
        omega)
      have HTK : Hid ((C.take (j + 1)).map (·.k) = (C.take j).map (·.k) ++ [C[j].k]) := Lib.hid (by rw [← List.take_append_getElem hjl, List.map_append]; rfl)
      clear HH
      go_upto_region 5 with fail
      generalize wr.alloc (.cells #[.string C[j].k, .int .i64 C[j].i.k, .string C[j].i.t, .slice C[j].a C[j].i.l.length C[j].c, .int .i64 C[j].t] 87) = W1 at *
      generalize wr.heap.size = BX at *
      clear d0 d1 d2 d3 d4
      generalize hk : C[j].k = k at *
      have H1 : Hid (Hp o W1 (rowT 9 1 (.slice (some ⟨og, 0, none⟩) L.length oc) L.length (Ea.cellsT L) :: cellsT BX [.string k, .int .i64 C[j].i.k, .string C[j].i.t, .slice C[j].a C[j].i.l.length C[j].c, .int .i64 C[j].t] :: cellsT B [.slice (some ⟨gb, 0, none⟩) C.length cc, .int .i64 m.b, ev] :: rowC (.slice (some ⟨gb, 0, none⟩) C.length cc) C :: evsT ev m.ev :: roT (rowsC C) :: l)) := Lib.hid (HX.out.pull 1 rfl)
      clear HX hk
      generalize C[j].i = pi at *
      generalize C[j].a = pa at *
      generalize C[j].c = pc at *
      generalize C[j].t = pt at *
      go_wp2_with fail
      obtain ⟨gO, rfl⟩ : ∃ gO : Nat, gO = gk := ⟨_, rfl⟩
      go_loopg [6] (L.length + 1) (fun g2 vp wr => ∃ (p : Nat), vp = .int .i64 p ∧ p ≤ L.length ∧ L.length - p ≤ g2 ∧ Hid (∀ i (hi : i < L.length), i < p → ltK L[i] k = true) ∧ Hid (Hp o wr (rowT 9 1 (.slice (some ⟨og, 0, none⟩) L.length oc) L.length (Ea.cellsT L) :: cellsT BX [.string k, .int .i64 pi.k, .string pi.t, .slice pa pi.l.length pc, .int .i64 pt] :: cellsT B [.slice (some ⟨gb, 0, none⟩) C.length cc, .int .i64 m.b, ev] :: rowC (.slice (some ⟨gb, 0, none⟩) C.length cc) C :: evsT ev m.ev :: roT (rowsC C) :: l)))
      case atStart => exact ⟨0, rfl, by omega, by omega, Lib.hid (fun i hi h => by omega), H1⟩
      case round =>
        obtain ⟨p, rfl, hp, hg2, HLo, HH⟩ := hrel
        clear H1
        have b0 := (HH.out.pull 1 rfl).cell 0 rfl
        by_cases hgo : ∃ (hi : p < L.length), ltK L[p] k = true
        case pos =>
          obtain ⟨hpl, hlt⟩ := hgo
          have hpc : (p : Int) < (L.length : Int) := by omega
          have hd : decide ((p : Int) < (L.length : Int)) = true := decide_eq_true hpc
          have e0 : wr.cell? ⟨og, p, none⟩ = some (.string L[p]) := by
            rw [HH.out.rowCell (j := p) (by omega), str_at L hpl]
          have HLo2 : Hid (∀ i (hi : i < L.length), i < p + 1 → ltK L[i] k = true) := Lib.hid (fun i hi h => by
            by_cases e : i = p
            · subst e; exact hlt
            · exact HLo.out i hi (by omega))
          have hlb : Op.bytesLess L[p].toList k.toList = true := hlt
          clear hlt HLo
          generalize L[p] = q at *
          go_wp2_with fail
          go_big_quiet (fail)
          go_wp2_with fail
          go_roundg (gk - 1)
          case measure => omega
          case rel => exact ⟨p + 1, by go_num, by omega, by omega, HLo2, Lib.hid (HH.out.bel (Ta.drewN_below wr _))⟩
        case neg =>
          have HHi : Hid (∀ (hi : p < L.length), ltK L[p] k = false) := Lib.hid (fun hi => by
            cases e : ltK L[p] k with
            | false => rfl
            | true => exact absurd ⟨hi, e⟩ hgo)
          have HKI : Hid (KeysOf (insK L p k) ((C.take (j + 1)).map (·.k))) := Lib.hid (by rw [HTK.out]; exact keys_ins HK.out HKN.out hp HLo.out HHi.out)
          have HLI : Hid ((insK L p k).length = L.length + 1) := Lib.hid (insK_len hp k)
          have HLj1 : Hid (L.length + 1 = j + 1) := Lib.hid (by rw [HLj.out])
          have hpi : (p : Int) ≤ (L.length : Int) := by omega
          have hpn : (0 : Int) ≤ (p : Int) := by omega
          have hpo : (p : Int) ≤ (oc : Int) := by omega
          have hpo2 : p ≤ oc := by omega
          have hw : Hid (Hp o (wr.drewN 0) (rowT 9 1 (.slice (some ⟨og, 0, none⟩) L.length oc) L.length (Ea.cellsT L) :: cellsT BX [.string k, .int .i64 pi.k, .string pi.t, .slice pa pi.l.length pc, .int .i64 pt] :: cellsT B [.slice (some ⟨gb, 0, none⟩) C.length cc, .int .i64 m.b, ev] :: rowC (.slice (some ⟨gb, 0, none⟩) C.length cc) C :: evsT ev m.ev :: roT (rowsC C) :: l)) := Lib.hid (HH.out.bel (Ta.drewN_below wr _))
          clear hw
          have hreg : (∃ (hi : p < L.length), ltK L[p] k = false ∧ (p : Int) < (L.length : Int)) ∨ (¬ (p : Int) < (L.length : Int)) := by
            by_cases hi : p < L.length
            · exact .inl ⟨hi, HHi.out hi, by omega⟩
            · exact .inr (by omega)
          rcases hreg with ⟨hi, hlf, hpc⟩ | hpc
          · have e0 : wr.cell? ⟨og, p, none⟩ = some (.string L[p]) := by
              rw [HH.out.rowCell (j := p) (by omega), str_at L hi]
            have hlb : Op.bytesLess L[p].toList k.toList = false := hlf
            have hcap : ¬ oc = p := by omega
            clear hlf hgo HLo HHi HK
            generalize L[p] = q at *
            go_wp2_with fail
            go_big_quiet (fail)
            obtain ⟨W2, hW2⟩ : ∃ W2, wr.drewN nq = W2 := ⟨_, rfl⟩
            have H2 := Lib.hid (HH.out.bel (Ta.drewN_below wr nq))
            rw [hW2] at H2 ⊢
            clear hW2 HH e0 b0
            obtain ⟨i0, hi0, hz0, hz1, hz2⟩ := info_parts iStr
            have hA1 := H2.out.rowAdd (w' := W2.alloc (.cells #[] 9)) (e := 9) (size := 1) (v := .slice (some ⟨W2.heap.size, 0, none⟩) 0 0) (n := 0) (xs := []) (Sp.bbox _) (World.ownsRow_made W2 #[] 0 (Nat.le_refl _) (Nat.zero_le _) rfl) (Nat.le_refl _)
            have hdl : (L.drop (p)).length = L.length - (p) := List.length_drop ..
            have H3 := Lib.hid hA1
            clear hA1
            go_wp2_with (at_builtin; refine Sp.Hp.rowPushS H3.out (Below.refl _ _) rfl _ _ 53 rfl i0 _ 16 Tryz.underlying53 hi0 hz0 hz1 hz2 rfl (by decide) rfl ⟨og, p, none⟩ (L.length - p) (oc - p) (Ea.cellsT (L.drop (p))) rfl ?c1 ?c2 ?c3 ?c4 ?c5 ?_)
            case c1 => rw [Ea.cellsT_len, hdl]
            case c2 =>
              intro x u hu
              have hx : x < L.length - (p) := by
                have := (List.getElem?_eq_some_iff.1 hu).1
                rw [Ea.cellsT_len, hdl] at this; omega
              rw [Addr.add_lit, (H3.out.pull 1 rfl).rowCell (j := p + x) (by omega), str_at L (by omega), ← hu]
              unfold Ea.cellsT
              rw [List.getElem?_map, List.getElem?_drop, List.getElem?_eq_getElem (by omega)]
              rfl
            case c3 => exact str_one _
            case c4 => unfold maxLen; omega
            case c5 => omega
            intro rg rc W3 h4
            have H4 : Hid (Hp o W3 (rowT 9 1 (.slice (some ⟨rg, 0, none⟩) (L.length - p) rc) (L.length - p) (Ea.cellsT (L.drop (p))) :: rowT 9 1 (.slice (some ⟨og, 0, none⟩) L.length oc) L.length (Ea.cellsT L) :: cellsT BX [.string k, .int .i64 pi.k, .string pi.t, .slice pa pi.l.length pc, .int .i64 pt] :: cellsT B [.slice (some ⟨gb, 0, none⟩) C.length cc, .int .i64 m.b, ev] :: rowC (.slice (some ⟨gb, 0, none⟩) C.length cc) C :: evsT ev m.ev :: roT (rowsC C) :: l)) := Lib.hid h4
            clear h4 H3 H2
            have x0 := (H4.out.pull 2 rfl).cell 0 rfl
            obtain ⟨g5, c5, w5, hrun1, h5, hb5⟩ := Sp.viewRun (P := Tryz.prog) (e := 9) (size := 1) (n := p) (cap := p) (xs := Ea.cellsT (L.take (p))) (H4.out.bel (Below.drew (Sp.bbox (w := W3) (.cells #[.string k] 9)))) 53 53 i0 _ 16 Tryz.underlying53 hi0 hz0 hz1 hz2 rfl ⟨og, 0, none⟩ (by rw [Ea.cellsT_len, List.length_take, Nat.min_eq_left (by omega)])
              (fun x u hu => by
                have hx : x < p := by
                  have := (List.getElem?_eq_some_iff.1 hu).1
                  rw [Ea.cellsT_len, List.length_take, Nat.min_eq_left (by omega)] at this; omega
                rw [Addr.add_lit, Nat.zero_add, ((H4.out.bel (Below.drew (Sp.bbox (w := W3) (.cells #[.string k] 9)))).pull 1 rfl).rowCell (j := x) (by omega), ← hu]
                unfold Ea.cellsT
                rw [List.getElem?_map, List.getElem?_map, List.getElem?_take_of_lt hx])
              ⟨W3.heap.size, 0, none⟩ 1 1 [.string k] rfl
              (fun j u hj => by
                rw [Addr.add_lit, Nat.zero_add]
                show (W3.alloc _).cell? _ = _
                rw [World.cell?_alloc_new]
                simpa using hj) (by omega) (by unfold maxLen; omega) (by omega)
            obtain ⟨g6, c6, w6, hrun2, h6, hst6⟩ := Sp.rowRunS (P := Tryz.prog) h5 (Below.refl _ _) 53 53 i0 _ 16 Tryz.underlying53 hi0 hz0 hz1 hz2 rfl (by decide) ⟨rg, 0, none⟩ (L.length - p) rc (Ea.cellsT (L.drop (p))) (by rw [Ea.cellsT_len, hdl])
              (fun x u hu => by
                have hx : x < L.length - p := by
                  have := (List.getElem?_eq_some_iff.1 hu).1
                  rw [Ea.cellsT_len, hdl] at this; omega
                rw [Addr.add_lit, Nat.zero_add, (h5.pull 1 rfl).rowCell (j := x) (by omega), ← hu])
              (str_one _) (by unfold maxLen; omega) (by omega)
            have e6 : p + 1 + (L.length - p) = (insK L (p) k).length := by rw [HLI.out]; omega
            have e7 : Ea.cellsT (L.take (p)) ++ [.string k] ++ Ea.cellsT (L.drop (p)) = Ea.cellsT (insK L (p) k) := by unfold Ea.cellsT insK; rw [List.map_append, List.map_append]; rfl
            rw [e6] at hrun2
            rw [e6, e7] at h6
            have hcb : (insK L (p) k).length ≤ c6 ∧ c6 ≤ 9223372036854775807 := by
              obtain ⟨a', c', e, h1, h2, -⟩ := h6.rowForm
              injection e with _ _ e3
              omega
            have H6 : Hid (Hp o w6 (rowT 9 1 (.slice (some ⟨g6, 0, none⟩) (insK L (p) k).length c6) (insK L (p) k).length (Ea.cellsT (insK L (p) k)) :: cellsT B [.slice (some ⟨gb, 0, none⟩) C.length cc, .int .i64 m.b, ev] :: rowC (.slice (some ⟨gb, 0, none⟩) C.length cc) C :: evsT ev m.ev :: roT (rowsC C) :: l)) := Lib.hid (((h6.dropAt 1 rfl).dropAt 1 rfl).dropAt 1 rfl)
            have HLf : Hid ((insK L (p) k).length = j + 1) := Lib.hid (by rw [HLI.out, HLj1.out])
            have hl9 : (insK L (p) k).length ≤ 900 := by rw [HLf.out]; omega
            clear h5 h6 hst6 hb5 e6 e7 HLI HLj1 hi0 hz0 hz1 hz2 H4 HKN HTK
            generalize insK L (p) k = L2 at *
            obtain ⟨hcb1, hcb2⟩ := hcb
            go_wp2_with fail
            go_region_law (
              first
              | (refine Sp.step_app (o := ⟨some 45, _, _, _, _, _⟩) rfl (.tmp 41) (.tmp 44) rfl ?_ ?_ hrun1 ?_
                 first | rfl | simp [Act.eval]
                 first | rfl | simp [Act.eval])
              | (refine Sp.step_app (o := ⟨some 47, _, _, _, _, _⟩) rfl (.tmp 45) (.tmp 46) rfl ?_ ?_ hrun2 ?_
                 first | rfl | simp [Act.eval]
                 first | rfl | simp [Act.eval]))
            all_goals clear hrun1 hrun2 x0
            all_goals go_wp2_with fail
            all_goals go_roundg (gO - 1)
            all_goals first
              | omega
              | exact ⟨j + 1, L2, g6, c6, by go_num, by omega, by omega, rfl, HLf, hl9, hcb1, hcb2, HKI, H6⟩
          · obtain rfl : p = L.length := by omega
            obtain ⟨offv, capv, hoc⟩ : ∃ offv capv, (oc = L.length ∧ offv = 0 ∧ capv = 0) ∨ (¬ oc = L.length ∧ offv = L.length ∧ capv = oc - L.length) := by
              by_cases e : oc = L.length
              · exact ⟨0, 0, .inl ⟨e, rfl, rfl⟩⟩
              · exact ⟨_, _, .inr ⟨e, rfl, rfl⟩⟩
            clear hgo HLo HHi HK hpc
            go_wp2_with fail
            go_big_quiet (fail)
            obtain ⟨W2, hW2⟩ : ∃ W2, wr.drewN nq = W2 := ⟨_, rfl⟩
            have H2 := Lib.hid (HH.out.bel (Ta.drewN_below wr nq))
            rw [hW2] at H2 ⊢
            clear hW2 HH b0
            rcases hoc with ⟨rfl, -, -⟩ | ⟨hcap, -, -⟩
            · obtain ⟨i0, hi0, hz0, hz1, hz2⟩ := info_parts iStr
              have hA1 := H2.out.rowAdd (w' := W2.alloc (.cells #[] 9)) (e := 9) (size := 1) (v := .slice (some ⟨W2.heap.size, 0, none⟩) 0 0) (n := 0) (xs := []) (Sp.bbox _) (World.ownsRow_made W2 #[] 0 (Nat.le_refl _) (Nat.zero_le _) rfl) (Nat.le_refl _)
              have H3 := Lib.hid hA1
              clear hA1
              go_wp2_with (at_builtin; refine Sp.Hp.rowPushS H3.out (Below.refl _ _) rfl _ _ 53 rfl i0 _ 16 Tryz.underlying53 hi0 hz0 hz1 hz2 rfl (by decide) rfl ⟨og, 0, none⟩ (0) (0) [] rfl ?c1 ?c2 ?c3 ?c4 ?c5 ?_)
              case c1 => rfl
              case c2 => intro x u hu; simp at hu
              case c3 => intro u hu; cases hu
              case c4 => unfold maxLen; omega
              case c5 => omega
              intro rg rc W3 h4
              have H4 : Hid (Hp o W3 (rowT 9 1 (.slice (some ⟨rg, 0, none⟩) (0) rc) (0) [] :: rowT 9 1 (.slice (some ⟨og, 0, none⟩) L.length L.length) L.length (Ea.cellsT L) :: cellsT BX [.string k, .int .i64 pi.k, .string pi.t, .slice pa pi.l.length pc, .int .i64 pt] :: cellsT B [.slice (some ⟨gb, 0, none⟩) C.length cc, .int .i64 m.b, ev] :: rowC (.slice (some ⟨gb, 0, none⟩) C.length cc) C :: evsT ev m.ev :: roT (rowsC C) :: l)) := Lib.hid h4
              clear h4 H3 H2
              have x0 := (H4.out.pull 2 rfl).cell 0 rfl
              obtain ⟨g5, c5, w5, hrun1, h5, hb5⟩ := Sp.viewRun (P := Tryz.prog) (e := 9) (size := 1) (n := L.length) (cap := L.length) (xs := Ea.cellsT L) (H4.out.bel (Below.drew (Sp.bbox (w := W3) (.cells #[.string k] 9)))) 53 53 i0 _ 16 Tryz.underlying53 hi0 hz0 hz1 hz2 rfl ⟨og, 0, none⟩ (Ea.cellsT_len L)
                (fun x u hu => by
                  have hx : x < L.length := by
                    have := (List.getElem?_eq_some_iff.1 hu).1
                    rw [Ea.cellsT_len] at this; omega
                  rw [Addr.add_lit, Nat.zero_add, ((H4.out.bel (Below.drew (Sp.bbox (w := W3) (.cells #[.string k] 9)))).pull 1 rfl).rowCell (j := x) (by omega), ← hu])
                ⟨W3.heap.size, 0, none⟩ 1 1 [.string k] rfl
                (fun j u hj => by
                  rw [Addr.add_lit, Nat.zero_add]
                  show (W3.alloc _).cell? _ = _
                  rw [World.cell?_alloc_new]
                  simpa using hj) (by omega) (by unfold maxLen; omega) (by omega)
              obtain ⟨g6, c6, w6, hrun2, h6, hst6⟩ := Sp.rowRunS (P := Tryz.prog) h5 (Below.refl _ _) 53 53 i0 _ 16 Tryz.underlying53 hi0 hz0 hz1 hz2 rfl (by decide) ⟨rg, 0, none⟩ (0) rc [] rfl (fun x u hu => by simp at hu) (fun u hu => by cases hu) (by unfold maxLen; omega) (by omega)
              have e6 : L.length + 1 + (0) = (insK L (L.length) k).length := by rw [HLI.out]
              have e7 : Ea.cellsT L ++ [.string k] ++ [] = Ea.cellsT (insK L (L.length) k) := by unfold Ea.cellsT insK; simp
              rw [e6, e7] at h6
              have hcb : (insK L (L.length) k).length ≤ c6 ∧ c6 ≤ 9223372036854775807 := by
                obtain ⟨a', c', e, h1, h2, -⟩ := h6.rowForm
                injection e with _ _ e3
                omega
              have H6 : Hid (Hp o w6 (rowT 9 1 (.slice (some ⟨g6, 0, none⟩) (insK L (L.length) k).length c6) (insK L (L.length) k).length (Ea.cellsT (insK L (L.length) k)) :: cellsT B [.slice (some ⟨gb, 0, none⟩) C.length cc, .int .i64 m.b, ev] :: rowC (.slice (some ⟨gb, 0, none⟩) C.length cc) C :: evsT ev m.ev :: roT (rowsC C) :: l)) := Lib.hid (((h6.dropAt 1 rfl).dropAt 1 rfl).dropAt 1 rfl)
              have HLf : Hid ((insK L (L.length) k).length = j + 1) := Lib.hid (by rw [HLI.out, HLj1.out])
              have hl9 : (insK L (L.length) k).length ≤ 900 := by rw [HLf.out]; omega
              clear h5 h6 hst6 hb5 e6 e7 HLj1 hi0 hz0 hz1 hz2 H4 HKN HTK
              generalize insK L (L.length) k = L2 at *
              obtain ⟨hcb1, hcb2⟩ := hcb
              go_wp2_with fail
              go_region_law (
                first
                | (refine Sp.step_app (o := ⟨some 45, _, _, _, _, _⟩) rfl (.tmp 41) (.tmp 44) rfl ?_ ?_ hrun1 ?_
                   first | rfl | simp [Act.eval]
                   first | rfl | simp [Act.eval])
                | (refine Sp.step_app (o := ⟨some 47, _, _, _, _, _⟩) rfl (.tmp 45) (.tmp 46) rfl ?_ ?_ hrun2 ?_
                   first | rfl | simp [Act.eval]
                   first | rfl | simp [Act.eval]))
              all_goals clear hrun1 hrun2 x0
              all_goals go_wp2_with fail
              all_goals go_roundg (gO - 1)
              all_goals first
                | omega
                | exact ⟨j + 1, L2, g6, c6, by go_num, by omega, by omega, by rw [HLI.out], HLf, hl9, hcb1, hcb2, HKI, H6⟩
            · obtain ⟨i0, hi0, hz0, hz1, hz2⟩ := info_parts iStr
              have hA1 := H2.out.rowAdd (w' := W2.alloc (.cells #[] 9)) (e := 9) (size := 1) (v := .slice (some ⟨W2.heap.size, 0, none⟩) 0 0) (n := 0) (xs := []) (Sp.bbox _) (World.ownsRow_made W2 #[] 0 (Nat.le_refl _) (Nat.zero_le _) rfl) (Nat.le_refl _)
              have H3 := Lib.hid hA1
              clear hA1
              go_wp2_with (at_builtin; refine Sp.Hp.rowPushS H3.out (Below.refl _ _) rfl _ _ 53 rfl i0 _ 16 Tryz.underlying53 hi0 hz0 hz1 hz2 rfl (by decide) rfl ⟨og, L.length, none⟩ (0) (oc - L.length) [] rfl ?c1 ?c2 ?c3 ?c4 ?c5 ?_)
              case c1 => rfl
              case c2 => intro x u hu; simp at hu
              case c3 => intro u hu; cases hu
              case c4 => unfold maxLen; omega
              case c5 => omega
              intro rg rc W3 h4
              have H4 : Hid (Hp o W3 (rowT 9 1 (.slice (some ⟨rg, 0, none⟩) (0) rc) (0) [] :: rowT 9 1 (.slice (some ⟨og, 0, none⟩) L.length oc) L.length (Ea.cellsT L) :: cellsT BX [.string k, .int .i64 pi.k, .string pi.t, .slice pa pi.l.length pc, .int .i64 pt] :: cellsT B [.slice (some ⟨gb, 0, none⟩) C.length cc, .int .i64 m.b, ev] :: rowC (.slice (some ⟨gb, 0, none⟩) C.length cc) C :: evsT ev m.ev :: roT (rowsC C) :: l)) := Lib.hid h4
              clear h4 H3 H2
              have x0 := (H4.out.pull 2 rfl).cell 0 rfl
              obtain ⟨g5, c5, w5, hrun1, h5, hb5⟩ := Sp.viewRun (P := Tryz.prog) (e := 9) (size := 1) (n := L.length) (cap := L.length) (xs := Ea.cellsT L) (H4.out.bel (Below.drew (Sp.bbox (w := W3) (.cells #[.string k] 9)))) 53 53 i0 _ 16 Tryz.underlying53 hi0 hz0 hz1 hz2 rfl ⟨og, 0, none⟩ (Ea.cellsT_len L)
                (fun x u hu => by
                  have hx : x < L.length := by
                    have := (List.getElem?_eq_some_iff.1 hu).1
                    rw [Ea.cellsT_len] at this; omega
                  rw [Addr.add_lit, Nat.zero_add, ((H4.out.bel (Below.drew (Sp.bbox (w := W3) (.cells #[.string k] 9)))).pull 1 rfl).rowCell (j := x) (by omega), ← hu])
                ⟨W3.heap.size, 0, none⟩ 1 1 [.string k] rfl
                (fun j u hj => by
                  rw [Addr.add_lit, Nat.zero_add]
                  show (W3.alloc _).cell? _ = _
                  rw [World.cell?_alloc_new]
                  simpa using hj) (by omega) (by unfold maxLen; omega) (by omega)
              obtain ⟨g6, c6, w6, hrun2, h6, hst6⟩ := Sp.rowRunS (P := Tryz.prog) h5 (Below.refl _ _) 53 53 i0 _ 16 Tryz.underlying53 hi0 hz0 hz1 hz2 rfl (by decide) ⟨rg, 0, none⟩ (0) rc [] rfl (fun x u hu => by simp at hu) (fun u hu => by cases hu) (by unfold maxLen; omega) (by omega)
              have e6 : L.length + 1 + (0) = (insK L (L.length) k).length := by rw [HLI.out]
              have e7 : Ea.cellsT L ++ [.string k] ++ [] = Ea.cellsT (insK L (L.length) k) := by unfold Ea.cellsT insK; simp
              rw [e6, e7] at h6
              have hcb : (insK L (L.length) k).length ≤ c6 ∧ c6 ≤ 9223372036854775807 := by
                obtain ⟨a', c', e, h1, h2, -⟩ := h6.rowForm
                injection e with _ _ e3
                omega
              have H6 : Hid (Hp o w6 (rowT 9 1 (.slice (some ⟨g6, 0, none⟩) (insK L (L.length) k).length c6) (insK L (L.length) k).length (Ea.cellsT (insK L (L.length) k)) :: cellsT B [.slice (some ⟨gb, 0, none⟩) C.length cc, .int .i64 m.b, ev] :: rowC (.slice (some ⟨gb, 0, none⟩) C.length cc) C :: evsT ev m.ev :: roT (rowsC C) :: l)) := Lib.hid (((h6.dropAt 1 rfl).dropAt 1 rfl).dropAt 1 rfl)
              have HLf : Hid ((insK L (L.length) k).length = j + 1) := Lib.hid (by rw [HLI.out, HLj1.out])
              have hl9 : (insK L (L.length) k).length ≤ 900 := by rw [HLf.out]; omega
              clear h5 h6 hst6 hb5 e6 e7 HLj1 hi0 hz0 hz1 hz2 H4 HKN HTK
              generalize insK L (L.length) k = L2 at *
              obtain ⟨hcb1, hcb2⟩ := hcb
              go_wp2_with fail
              go_region_law (
                first
                | (refine Sp.step_app (o := ⟨some 45, _, _, _, _, _⟩) rfl (.tmp 41) (.tmp 44) rfl ?_ ?_ hrun1 ?_
                   first | rfl | simp [Act.eval]
                   first | rfl | simp [Act.eval])
                | (refine Sp.step_app (o := ⟨some 47, _, _, _, _, _⟩) rfl (.tmp 45) (.tmp 46) rfl ?_ ?_ hrun2 ?_
                   first | rfl | simp [Act.eval]
                   first | rfl | simp [Act.eval]))
              all_goals clear hrun1 hrun2 x0
              all_goals go_wp2_with fail
              all_goals go_roundg (gO - 1)
              all_goals first
                | omega
                | exact ⟨j + 1, L2, g6, c6, by go_num, by omega, by omega, by rw [HLI.out], HLf, hl9, hcb1, hcb2, HKI, H6⟩
end
end Go.Proofs.YtmjlhmohglbecaaGreatDoor.Sa
/- The checking packages' Same of texts, SameEvents: of the same texts, the same events. Conditions: they lie. -/
namespace Go.Proofs.YtmjlhmohglbecaaGreatDoor.Sa
set_option linter.unusedVariables false
set_option linter.unusedSimpArgs false
open Go.ChangeShapes Go.WideShapes Go.ChangeAt Go.RowKit
open Sp (Th Hp Stays All Ro roT rowT cellsT exT puT star)
theorem neqE (w : World) (a : Int) (x : ByteArray) : (binOp .neq 62 (.agg #[.int .i64 a, .string x]) (.agg #[.int .i64 a, .string x])).run Tryz.prog w = .ok (.bool false) w := by
  have hS : Tryz.prog.underlying 62 = some (.struct (Tryz.prog.fieldsOf 62)) := by kernel_rfl
  have hp : Tryz.prog.stoodInHeld 62 = false := by kernel_rfl
  rw [run_neq_struct, show (10000 : Nat) = 9999 + 1 from rfl, run_equalIn_agg w 9999 62 _ _ hS hp]
  have u1 : Tryz.prog.underlying 9 = some .string := by kernel_rfl
  have u2 : Tryz.prog.underlying 3 = some (.int .i64) := by kernel_rfl
  have uM := Tryz.underlying62
  simp only [Program.fieldsOf, uM]
  go_simp
/-- Texts at an address. -/
def AtS (w : World) (a : Option Addr) (L : List ByteArray) : Prop := 0 < L.length → ∃ g, a = some ⟨g, 0, none⟩ ∧ ∀ i (hi : i < L.length), w.cell? ⟨g, i, none⟩ = some (.string L[i])
def AtE (w : World) (a : Option Addr) (L : List (Int × ByteArray)) : Prop := 0 < L.length → ∃ g, a = some ⟨g, 0, none⟩ ∧ ∀ i (hi : i < L.length), w.cell? ⟨g, i * 2, none⟩ = some (.int .i64 L[i].1) ∧ w.cell? ⟨g, i * 2 + 1, none⟩ = some (.string L[i].2)
set_option maxHeartbeats 8000000 in
set_option maxRecDepth 100000 in
theorem sameS_calls (w : World) (a b : Option Addr) (c d : Nat) (L : List ByteArray) (hl : L.length ≤ 1000000) (hA : AtS w a L) (hB : AtS w b L) :
    Calls Tryz.prog 17 #[.slice a L.length c, .slice b L.length d] w fun e w' => e = .returned (.bool true) ∧ Below w.heap.size w w' := by
  have HA := Lib.hid hA
  have HB := Lib.hid hB
  have H0 := Lib.hid (Below.refl w.heap.size w)
  clear hA hB
  go_enter Tryz.func17, Tryz.ntmps17
  go_wp2_with fail
  go_loopg [5, 13] (L.length + 1) (fun g _ vi wr => ∃ j : Nat, vi = .int .i64 j ∧ j ≤ L.length ∧ L.length - j ≤ g ∧ Hid (Below w.heap.size w wr))
  case atStart => exact ⟨0, rfl, by omega, by omega, H0⟩
  case round =>
    obtain ⟨j, rfl, hj, hg, HW⟩ := hrel
    clear H0
    by_cases hjl : j < L.length
    case neg =>
      have hjc : ¬ ((j : Int) < (L.length : Int)) := by omega
      go_wp2_with fail
      go_ret
      exact ⟨rfl, HW.out⟩
    case pos =>
      have hjc : (j : Int) < (L.length : Int) := by omega
      obtain ⟨g1, rfl, e1⟩ := HA.out (by omega)
      obtain ⟨g2, rfl, e2⟩ := HB.out (by omega)
      have d1 := (HW.out.cell (p := ⟨g1, j, none⟩) (World.block_lt_of_cell? w _ (e1 j hjl))).trans (e1 j hjl)
      have d2 := (HW.out.cell (p := ⟨g2, j, none⟩) (World.block_lt_of_cell? w _ (e2 j hjl))).trans (e2 j hjl)
      clear e1 e2
      have HBe : Hid (∀ n, Below w.heap.size w (wr.drewN n)) := Lib.hid (fun n => Sp.bstep HW.out (Ta.drewN_below wr n))
      generalize L[j] = q at *
      have hqq : (q.toList == q.toList) = true := beq_self_eq_true _
      go_wp2_with fail
      go_big_quiet (fail)
      go_wp2_with fail
      go_roundg (gk - 1)
      case measure => omega
      case rel => exact ⟨j + 1, by go_num, by omega, by omega, Lib.hid (HBe.out _)⟩
set_option maxHeartbeats 8000000 in
set_option maxRecDepth 100000 in
theorem sameE_calls (w : World) (a b : Option Addr) (c d : Nat) (L : List (Int × ByteArray)) (hl : L.length ≤ 1000000) (hA : AtE w a L) (hB : AtE w b L) :
    Calls Tryz.prog 14 #[.slice a L.length c, .slice b L.length d] w fun e w' => e = .returned (.bool true) ∧ Below w.heap.size w w' := by
  have HA := Lib.hid hA
  have HB := Lib.hid hB
  have H0 := Lib.hid (Below.refl w.heap.size w)
  clear hA hB
  go_enter Tryz.func14, Tryz.ntmps14
  go_wp2_with fail
  go_loopg [5, 13] (L.length + 1) (fun g _ vi wr => ∃ j : Nat, vi = .int .i64 j ∧ j ≤ L.length ∧ L.length - j ≤ g ∧ Hid (Below w.heap.size w wr))
  case atStart => exact ⟨0, rfl, by omega, by omega, H0⟩
  case round =>
    obtain ⟨j, rfl, hj, hg, HW⟩ := hrel
    clear H0
    by_cases hjl : j < L.length
    case neg =>
      have hjc : ¬ ((j : Int) < (L.length : Int)) := by omega
      go_wp2_with fail
      go_ret
      exact ⟨rfl, HW.out⟩
    case pos =>
      have hjc : (j : Int) < (L.length : Int) := by omega
      obtain ⟨g1, rfl, e1⟩ := HA.out (by omega)
      obtain ⟨g2, rfl, e2⟩ := HB.out (by omega)
      have d1 := (HW.out.cell (p := ⟨g1, j * 2, none⟩) (World.block_lt_of_cell? w _ (e1 j hjl).1)).trans (e1 j hjl).1
      have d2 := (HW.out.cell (p := ⟨g2, j * 2, none⟩) (World.block_lt_of_cell? w _ (e2 j hjl).1)).trans (e2 j hjl).1
      have d3 := (HW.out.cell (p := ⟨g1, j * 2 + 1, none⟩) (World.block_lt_of_cell? w _ (e1 j hjl).2)).trans (e1 j hjl).2
      have d4 := (HW.out.cell (p := ⟨g2, j * 2 + 1, none⟩) (World.block_lt_of_cell? w _ (e2 j hjl).2)).trans (e2 j hjl).2
      clear e1 e2
      have HBe : Hid (∀ n, Below w.heap.size w (wr.drewN n)) := Lib.hid (fun n => Sp.bstep HW.out (Ta.drewN_below wr n))
      generalize L[j].1 = q at *
      generalize L[j].2 = t at *
      have hnq := fun w2 => neqE w2 q t
      go_wp2_with fail
      go_big_quiet (fail)
      go_wp2_with fail
      go_roundg (gk - 1)
      case measure => omega
      case rel => exact ⟨j + 1, by go_num, by omega, by omega, Lib.hid (HBe.out _)⟩
end Go.Proofs.YtmjlhmohglbecaaGreatDoor.Sa
/- Layer 12: an act at a store and at the checking package's Store. Conditions: both lie; bounds. -/
namespace Go.Proofs.YtmjlhmohglbecaaGreatDoor.Sa
set_option linter.unusedVariables false
set_option linter.unusedSimpArgs false
open Go.ChangeShapes Go.WideShapes Go.ChangeAt Go.RowKit
open Sp (Th Hp Stays All Ro roT rowT cellsT exT puT star)
noncomputable def rightB (i : Ia.It) : Bool := @decide (Ia.RightP i) (Classical.propDecidable _)
theorem rightB_iff (i : Ia.It) : rightB i = true ↔ Ia.RightP i := @decide_eq_true_iff _ (Classical.propDecidable _)
/-- What an act makes of a store. -/
noncomputable def actM (q : Ac) (now : Int) (m : Md) : Md :=
  if q.kd = 0 then getM q.k (endM q.k now m) else if q.kd = 1 then endM q.k now m else if q.kd = 2 then putM q.k q.i q.kp now (rightB q.i) m else if q.kd = 3 then dropM q.k now m else
  if q.kd = 4 then expireM q.k q.wh now m else if q.kd = 5 then persistM q.k now m else if q.kd = 6 then endM q.k now m else if q.kd = 7 then swM (dueK now q.n m) m else flushM m
theorem Ok.act {m : Md} (h : Ok m) (q : Ac) (now : Int) : Ok (actM q now m) := by
  unfold actM
  repeat' split
  · exact (h.end_ _ _).get _
  · exact h.end_ _ _
  · exact h.putM _ _ _ _ _ (rightB_iff q.i).1
  · exact h.drop _ _
  · exact h.expire _ _ _
  · exact h.persist _ _
  · exact h.end_ _ _
  · exact Ok.sw _ h
  · exact h.flush
/-- The box of an act. -/
def Box9 (BX : Nat) (q : Ac) (w : World) : Prop := w.cell? ⟨BX, 1, none⟩ = some (.int .i64 q.n) ∧ w.cell? ⟨BX, 2, none⟩ = some (.string q.k) ∧ w.cell? ⟨BX, 3, none⟩ = some (.int .i64 q.i.k) ∧ w.cell? ⟨BX, 4, none⟩ = some (.string q.i.t) ∧ w.cell? ⟨BX, 5, none⟩ = some (.slice q.a q.i.l.length q.c) ∧ w.cell? ⟨BX, 6, none⟩ = some (.bool q.kp) ∧ w.cell? ⟨BX, 7, none⟩ = some (.int .i64 q.wh)
section
variable {o w w' wb : World} {l : List Th} {T B BX : Nat} {m m2 : Md} {q : Ac}
theorem box9 (h : Hp o w (cellsT BX (cells9 q) :: l)) : Box9 BX q w := ⟨h.cell 1 rfl, h.cell 2 rfl, h.cell 3 rfl, h.cell 4 rfl, h.cell 5 rfl, h.cell 6 rfl, h.cell 7 rfl⟩
set_option maxHeartbeats 16000000 in
set_option maxRecDepth 100000 in
theorem one_0 (h : Hp o w (roT (itemR q.a q.c q.i) :: storeT T m :: refT B m2 :: l)) (hw : Below w.heap.size w wb) (hc : Ctx o) (hok : Ok m) (hok2 : Ok m2) (hk : q.k.size ≤ 1000) (hil : q.i.l.length ≤ 1000) (hn1 : -9223372036854775808 ≤ q.n) (hn2 : q.n ≤ 9223372036854775807) (now : Int) (h0 : 0 ≤ now) (h1 : now ≤ 4611686018427387904) (hm : m.K.length ≤ 250) (hm2 : m2.K.length ≤ 250) (he : m.ev.length ≤ 9000) (he2 : m2.ev.length ≤ 9000) (hkd : q.kd = 0) :
    Calls Tryz.prog 10 #[.pointer (some ⟨T, 0, none⟩), .pointer (some ⟨B, 0, none⟩), .agg #[.int .i64 q.kd, .int .i64 q.n, .string q.k, .int .i64 q.i.k, .string q.i.t, .slice q.a q.i.l.length q.c, .bool q.kp, .int .i64 q.wh, .int .u16 q.wt], .int .i64 now] wb fun e w' => ∃ b, e = .returned (.bool b) ∧ (m = m2 → b = true) ∧ Hp o w' (storeT T (actM q now m) :: refT B (actM q now m2) :: l) := by
  have HA : Hid (actM q now m = getM q.k (endM q.k now m) ∧ actM q now m2 = getM q.k (endM q.k now m2)) := Lib.hid (by unfold actM; simp only [hkd]; exact ⟨rfl, rfl⟩)
  have H1 := Lib.hid ((ro_dup (h.bel hw)).cellsNew (cells9 q) 34)
  clear h hw
  have e0 : (q.kd == 0) = true := by rw [beq_iff_eq]; exact hkd
  clear hkd
  go_enter Tryz.func10, Tryz.ntmps10
  have H1 : Hid (Hp o (wb.alloc (.cells #[.int .i64 q.kd, .int .i64 q.n, .string q.k, .int .i64 q.i.k, .string q.i.t, .slice q.a q.i.l.length q.c, .bool q.kp, .int .i64 q.wh, .int .u16 q.wt] 34)) (cellsT wb.heap.size (cells9 q) :: roT (itemR q.a q.c q.i) :: roT (itemR q.a q.c q.i) :: storeT T m :: refT B m2 :: l)) := H1
  go_upto_region 1 with fail
  generalize wb.alloc (.cells #[.int .i64 q.kd, .int .i64 q.n, .string q.k, .int .i64 q.i.k, .string q.i.t, .slice q.a q.i.l.length q.c, .bool q.kp, .int .i64 q.wh, .int .u16 q.wt] 34) = W0 at *
  generalize wb.heap.size = BX at *
  have b0 := H1.out.cell 0 rfl
  have b2 := H1.out.cell 2 rfl
  have HP1 := Lib.hid (get_calls (H1.out.pull 3 rfl) (Below.refl _ _) hok hc q.k hk now (by omega) (by omega))
  unfold ptr itV at HP1
  clear H1
  go_wp2_with fail
  refine HP1.out.mono ?_; rintro en w1 ⟨a1, c1, rfl, h2⟩
  obtain ⟨it1, hi1⟩ : ∃ it1, gotI q.k (endM q.k now m) = it1 := ⟨_, rfl⟩
  obtain ⟨x1, hx1⟩ : ∃ x1, Ca.inK q.k (endM q.k now m).K = x1 := ⟨_, rfl⟩
  rw [hi1, hx1]
  rw [hi1] at h2
  have HI1 := Lib.hid hi1
  have HX1 := Lib.hid hx1
  have H2 : Hid (Hp o (w1.alloc (.cells #[.int .i64 it1.k, .string it1.t, .slice a1 it1.l.length c1] 31)) (cellsT w1.heap.size [.int .i64 it1.k, .string it1.t, .slice a1 it1.l.length c1] :: roT (itemR a1 c1 it1) :: storeT T (getM q.k (endM q.k now m)) :: cellsT BX (cells9 q) :: roT (itemR q.a q.c q.i) :: roT (itemR q.a q.c q.i) :: refT B m2 :: l)) := Lib.hid (h2.cellsNew _ 31)
  clear h2 HP1 hi1 hx1 b0 b2
  go_upto_region 4 with fail
  generalize w1.alloc (.cells #[.int .i64 it1.k, .string it1.t, .slice a1 it1.l.length c1] 31) = W1 at *
  generalize w1.heap.size = BX1 at *
  have b2 := (H2.out.pull 3 rfl).cell 2 rfl
  have HP2 := Lib.hid (rget_calls (H2.out.pull 6 rfl) (Below.refl _ _) q.k now (by omega) (by omega))
  unfold itV at HP2
  go_wp2_with fail
  refine HP2.out.mono ?_; rintro en w2 ⟨a2, c2, rfl, h3⟩
  obtain ⟨it2, hi2⟩ : ∃ it2, gotI q.k (endM q.k now m2) = it2 := ⟨_, rfl⟩
  obtain ⟨x2, hx2⟩ : ∃ x2, Ca.inK q.k (endM q.k now m2).K = x2 := ⟨_, rfl⟩
  rw [hi2, hx2]
  rw [hi2] at h3
  have HI2 := Lib.hid hi2
  have HX2 := Lib.hid hx2
  have H3 : Hid (Hp o (w2.alloc (.cells #[.int .i64 it2.k, .string it2.t, .slice a2 it2.l.length c2] 31)) (cellsT w2.heap.size [.int .i64 it2.k, .string it2.t, .slice a2 it2.l.length c2] :: roT (itemR a2 c2 it2) :: refT B (getM q.k (endM q.k now m2)) :: cellsT BX1 [.int .i64 it1.k, .string it1.t, .slice a1 it1.l.length c1] :: roT (itemR a1 c1 it1) :: storeT T (getM q.k (endM q.k now m)) :: cellsT BX (cells9 q) :: roT (itemR q.a q.c q.i) :: roT (itemR q.a q.c q.i) :: l)) := Lib.hid (h3.cellsNew _ 31)
  clear h3 HP2 hi2 hx2 b2 H2
  go_upto_region 5 with fail
  generalize w2.alloc (.cells #[.int .i64 it2.k, .string it2.t, .slice a2 it2.l.length c2] 31) = W2 at *
  generalize w2.heap.size = BX2 at *
  by_cases hx : x1 = x2
  · have hxe : (x1 == x2) = true := beq_iff_eq.2 hx
    obtain ⟨b, hb⟩ := Ia.some_bI (it1.k = it2.k ∧ it1.t = it2.t ∧ it1.l = it2.l)
    have HB := Lib.hid hb
    obtain ⟨k1, k1'⟩ := item_cap (H3.out.pull 4 rfl)
    obtain ⟨k2, k2'⟩ := item_cap (H3.out.pull 1 rfl)
    have HS := Lib.hid (Ia.refSame_calls W2 it1.k it2.k it1.t it2.t a1 a2 c1 c2 _ _ it1.l it2.l rfl rfl (by omega) (by omega) (item_inF (H3.out.pull 4 rfl)) (item_inF (H3.out.pull 1 rfl)) b hb)
    have y0 := (H3.out.pull 3 rfl).cell 0 rfl
    have y1 := (H3.out.pull 3 rfl).cell 1 rfl
    have y2 := (H3.out.pull 3 rfl).cell 2 rfl
    have z0 := H3.out.cell 0 rfl
    have z1 := H3.out.cell 1 rfl
    have z2 := H3.out.cell 2 rfl
    clear hb hx
    go_wp2_with fail
    refine HS.out.mono ?_; rintro en w3 ⟨rfl, hb3⟩
    have H4 := Lib.hid (H3.out.bel hb3)
    clear hb3 HS y0 y1 y2 z0 z1 z2 H3
    go_wp2_with fail
    go_ret
    refine ⟨b, rfl, fun e => HB.out.2 ?_, ?_⟩
    · subst e
      rw [← HI1.out, ← HI2.out]
      exact ⟨rfl, rfl, rfl⟩
    · rw [HA.out.1, HA.out.2]
      have g1 := ((H4.out.drop.drop.dropAt 1 rfl).dropAt 1 rfl)
      have g2 := (((g1.dropAt 2 rfl).dropAt 2 rfl).dropAt 2 rfl)
      exact g2.pull 1 rfl
  · have hxe : (x1 == x2) = false := beq_eq_false_iff_ne.2 hx
    have HXX : Hid (m = m2 → False) := Lib.hid (fun e => hx (by rw [← HX1.out, ← HX2.out, e]))
    clear hx
    go_wp2_with fail
    go_ret
    refine ⟨false, rfl, fun e => (HXX.out e).elim, ?_⟩
    rw [HA.out.1, HA.out.2]
    have g1 := ((H3.out.drop.drop.dropAt 1 rfl).dropAt 1 rfl)
    have g2 := (((g1.dropAt 2 rfl).dropAt 2 rfl).dropAt 2 rfl)
    exact g2.pull 1 rfl
set_option maxHeartbeats 16000000 in
set_option maxRecDepth 100000 in
theorem one_1 (h : Hp o w (roT (itemR q.a q.c q.i) :: storeT T m :: refT B m2 :: l)) (hw : Below w.heap.size w wb) (hc : Ctx o) (hok : Ok m) (hok2 : Ok m2) (hk : q.k.size ≤ 1000) (hil : q.i.l.length ≤ 1000) (hn1 : -9223372036854775808 ≤ q.n) (hn2 : q.n ≤ 9223372036854775807) (now : Int) (h0 : 0 ≤ now) (h1 : now ≤ 4611686018427387904) (hm : m.K.length ≤ 250) (hm2 : m2.K.length ≤ 250) (he : m.ev.length ≤ 9000) (he2 : m2.ev.length ≤ 9000) (hkd : q.kd = 1) :
    Calls Tryz.prog 10 #[.pointer (some ⟨T, 0, none⟩), .pointer (some ⟨B, 0, none⟩), .agg #[.int .i64 q.kd, .int .i64 q.n, .string q.k, .int .i64 q.i.k, .string q.i.t, .slice q.a q.i.l.length q.c, .bool q.kp, .int .i64 q.wh, .int .u16 q.wt], .int .i64 now] wb fun e w' => ∃ b, e = .returned (.bool b) ∧ (m = m2 → b = true) ∧ Hp o w' (storeT T (actM q now m) :: refT B (actM q now m2) :: l) := by
  have HA : Hid (actM q now m = endM q.k now m ∧ actM q now m2 = endM q.k now m2) := Lib.hid (by unfold actM; simp only [hkd]; exact ⟨rfl, rfl⟩)
  have H1 := Lib.hid ((ro_dup (h.bel hw)).cellsNew (cells9 q) 34)
  clear h hw
  have e0 : (q.kd == 0) = false := by rw [beq_eq_false_iff_ne]; omega
  have e1 : (q.kd == 1) = true := by rw [beq_iff_eq]; exact hkd
  clear hkd
  go_enter Tryz.func10, Tryz.ntmps10
  have H1 : Hid (Hp o (wb.alloc (.cells #[.int .i64 q.kd, .int .i64 q.n, .string q.k, .int .i64 q.i.k, .string q.i.t, .slice q.a q.i.l.length q.c, .bool q.kp, .int .i64 q.wh, .int .u16 q.wt] 34)) (cellsT wb.heap.size (cells9 q) :: roT (itemR q.a q.c q.i) :: roT (itemR q.a q.c q.i) :: storeT T m :: refT B m2 :: l)) := H1
  go_upto_region 1 with fail
  generalize wb.alloc (.cells #[.int .i64 q.kd, .int .i64 q.n, .string q.k, .int .i64 q.i.k, .string q.i.t, .slice q.a q.i.l.length q.c, .bool q.kp, .int .i64 q.wh, .int .u16 q.wt] 34) = W0 at *
  generalize wb.heap.size = BX at *
  have b0 := H1.out.cell 0 rfl
  have b2 := H1.out.cell 2 rfl
  have HP1 := Lib.hid (peek_calls (H1.out.pull 3 rfl) (Below.refl _ _) hok hc q.k hk now (by omega) (by omega))
  unfold ptr itV at HP1
  clear H1
  go_wp2_with fail
  refine HP1.out.mono ?_; rintro en w1 ⟨a1, c1, rfl, h2⟩
  obtain ⟨it1, hi1⟩ : ∃ it1, gotI q.k (endM q.k now m) = it1 := ⟨_, rfl⟩
  obtain ⟨x1, hx1⟩ : ∃ x1, Ca.inK q.k (endM q.k now m).K = x1 := ⟨_, rfl⟩
  rw [hi1, hx1]
  rw [hi1] at h2
  have HI1 := Lib.hid hi1
  have HX1 := Lib.hid hx1
  have H2 : Hid (Hp o (w1.alloc (.cells #[.int .i64 it1.k, .string it1.t, .slice a1 it1.l.length c1] 31)) (cellsT w1.heap.size [.int .i64 it1.k, .string it1.t, .slice a1 it1.l.length c1] :: roT (itemR a1 c1 it1) :: storeT T (endM q.k now m) :: cellsT BX (cells9 q) :: roT (itemR q.a q.c q.i) :: roT (itemR q.a q.c q.i) :: refT B m2 :: l)) := Lib.hid (h2.cellsNew _ 31)
  clear h2 HP1 hi1 hx1 b0 b2
  go_upto_region 8 with fail
  generalize w1.alloc (.cells #[.int .i64 it1.k, .string it1.t, .slice a1 it1.l.length c1] 31) = W1 at *
  generalize w1.heap.size = BX1 at *
  have b2 := (H2.out.pull 3 rfl).cell 2 rfl
  have HP2 := Lib.hid (rpeek_calls (H2.out.pull 6 rfl) (Below.refl _ _) q.k now (by omega) (by omega))
  unfold itV at HP2
  go_wp2_with fail
  refine HP2.out.mono ?_; rintro en w2 ⟨a2, c2, rfl, h3⟩
  obtain ⟨it2, hi2⟩ : ∃ it2, gotI q.k (endM q.k now m2) = it2 := ⟨_, rfl⟩
  obtain ⟨x2, hx2⟩ : ∃ x2, Ca.inK q.k (endM q.k now m2).K = x2 := ⟨_, rfl⟩
  rw [hi2, hx2]
  rw [hi2] at h3
  have HI2 := Lib.hid hi2
  have HX2 := Lib.hid hx2
  have H3 : Hid (Hp o (w2.alloc (.cells #[.int .i64 it2.k, .string it2.t, .slice a2 it2.l.length c2] 31)) (cellsT w2.heap.size [.int .i64 it2.k, .string it2.t, .slice a2 it2.l.length c2] :: roT (itemR a2 c2 it2) :: refT B (endM q.k now m2) :: cellsT BX1 [.int .i64 it1.k, .string it1.t, .slice a1 it1.l.length c1] :: roT (itemR a1 c1 it1) :: storeT T (endM q.k now m) :: cellsT BX (cells9 q) :: roT (itemR q.a q.c q.i) :: roT (itemR q.a q.c q.i) :: l)) := Lib.hid (h3.cellsNew _ 31)
  clear h3 HP2 hi2 hx2 b2 H2
  go_upto_region 9 with fail
  generalize w2.alloc (.cells #[.int .i64 it2.k, .string it2.t, .slice a2 it2.l.length c2] 31) = W2 at *
  generalize w2.heap.size = BX2 at *
  by_cases hx : x1 = x2
  · have hxe : (x1 == x2) = true := beq_iff_eq.2 hx
    obtain ⟨b, hb⟩ := Ia.some_bI (it1.k = it2.k ∧ it1.t = it2.t ∧ it1.l = it2.l)
    have HB := Lib.hid hb
    obtain ⟨k1, k1'⟩ := item_cap (H3.out.pull 4 rfl)
    obtain ⟨k2, k2'⟩ := item_cap (H3.out.pull 1 rfl)
    have HS := Lib.hid (Ia.refSame_calls W2 it1.k it2.k it1.t it2.t a1 a2 c1 c2 _ _ it1.l it2.l rfl rfl (by omega) (by omega) (item_inF (H3.out.pull 4 rfl)) (item_inF (H3.out.pull 1 rfl)) b hb)
    have y0 := (H3.out.pull 3 rfl).cell 0 rfl
    have y1 := (H3.out.pull 3 rfl).cell 1 rfl
    have y2 := (H3.out.pull 3 rfl).cell 2 rfl
    have z0 := H3.out.cell 0 rfl
    have z1 := H3.out.cell 1 rfl
    have z2 := H3.out.cell 2 rfl
    clear hb hx
    go_wp2_with fail
    refine HS.out.mono ?_; rintro en w3 ⟨rfl, hb3⟩
    have H4 := Lib.hid (H3.out.bel hb3)
    clear hb3 HS y0 y1 y2 z0 z1 z2 H3
    go_wp2_with fail
    go_ret
    refine ⟨b, rfl, fun e => HB.out.2 ?_, ?_⟩
    · subst e
      rw [← HI1.out, ← HI2.out]
      exact ⟨rfl, rfl, rfl⟩
    · rw [HA.out.1, HA.out.2]
      have g1 := ((H4.out.drop.drop.dropAt 1 rfl).dropAt 1 rfl)
      have g2 := (((g1.dropAt 2 rfl).dropAt 2 rfl).dropAt 2 rfl)
      exact g2.pull 1 rfl
  · have hxe : (x1 == x2) = false := beq_eq_false_iff_ne.2 hx
    have HXX : Hid (m = m2 → False) := Lib.hid (fun e => hx (by rw [← HX1.out, ← HX2.out, e]))
    clear hx
    go_wp2_with fail
    go_ret
    refine ⟨false, rfl, fun e => (HXX.out e).elim, ?_⟩
    rw [HA.out.1, HA.out.2]
    have g1 := ((H3.out.drop.drop.dropAt 1 rfl).dropAt 1 rfl)
    have g2 := (((g1.dropAt 2 rfl).dropAt 2 rfl).dropAt 2 rfl)
    exact g2.pull 1 rfl
set_option maxHeartbeats 16000000 in
set_option maxRecDepth 100000 in
theorem one_2 (h : Hp o w (roT (itemR q.a q.c q.i) :: storeT T m :: refT B m2 :: l)) (hw : Below w.heap.size w wb) (hc : Ctx o) (hok : Ok m) (hok2 : Ok m2) (hk : q.k.size ≤ 1000) (hil : q.i.l.length ≤ 1000) (hn1 : -9223372036854775808 ≤ q.n) (hn2 : q.n ≤ 9223372036854775807) (now : Int) (h0 : 0 ≤ now) (h1 : now ≤ 4611686018427387904) (hm : m.K.length ≤ 250) (hm2 : m2.K.length ≤ 250) (he : m.ev.length ≤ 9000) (he2 : m2.ev.length ≤ 9000) (hkd : q.kd = 2) :
    Calls Tryz.prog 10 #[.pointer (some ⟨T, 0, none⟩), .pointer (some ⟨B, 0, none⟩), .agg #[.int .i64 q.kd, .int .i64 q.n, .string q.k, .int .i64 q.i.k, .string q.i.t, .slice q.a q.i.l.length q.c, .bool q.kp, .int .i64 q.wh, .int .u16 q.wt], .int .i64 now] wb fun e w' => ∃ b, e = .returned (.bool b) ∧ (m = m2 → b = true) ∧ Hp o w' (storeT T (actM q now m) :: refT B (actM q now m2) :: l) := by
  have HA : Hid (actM q now m = putM q.k q.i q.kp now (rightB q.i) m ∧ actM q now m2 = putM q.k q.i q.kp now (rightB q.i) m2) := Lib.hid (by unfold actM; simp only [hkd]; exact ⟨rfl, rfl⟩)
  have H1 := Lib.hid ((ro_dup (h.bel hw)).cellsNew (cells9 q) 34)
  clear h hw
  have e0 : (q.kd == 0) = false := by rw [beq_eq_false_iff_ne]; omega
  have e1 : (q.kd == 1) = false := by rw [beq_eq_false_iff_ne]; omega
  have e2 : (q.kd == 2) = true := by rw [beq_iff_eq]; exact hkd
  clear hkd
  go_enter Tryz.func10, Tryz.ntmps10
  have H1 : Hid (Hp o (wb.alloc (.cells #[.int .i64 q.kd, .int .i64 q.n, .string q.k, .int .i64 q.i.k, .string q.i.t, .slice q.a q.i.l.length q.c, .bool q.kp, .int .i64 q.wh, .int .u16 q.wt] 34)) (cellsT wb.heap.size (cells9 q) :: roT (itemR q.a q.c q.i) :: roT (itemR q.a q.c q.i) :: storeT T m :: refT B m2 :: l)) := H1
  go_upto_region 1 with fail
  generalize wb.alloc (.cells #[.int .i64 q.kd, .int .i64 q.n, .string q.k, .int .i64 q.i.k, .string q.i.t, .slice q.a q.i.l.length q.c, .bool q.kp, .int .i64 q.wh, .int .u16 q.wt] 34) = W0 at *
  generalize wb.heap.size = BX at *
  have b0 := H1.out.cell 0 rfl
  have S1 : Hid (Box9 BX q W0.drew) := Lib.hid (box9 (H1.out.bel ((Below.refl _ _).drew)))
  have HP1 := Lib.hid (put_calls (a := q.a) (c := q.c) (i := q.i) (((H1.out.bel ((Below.refl _ _).drew)).pull 3 rfl).pull 2 rfl) (Below.refl _ _) hok hc q.k hk hil q.kp now (rightB q.i) (rightB_iff q.i) (by omega) (by omega))
  unfold ptr itV at HP1
  clear H1
  unfold Box9 at S1
  go_wp2_with fail
  go_region_held3 (fun w' : World => w'.cell? ⟨BX, 1, none⟩ = some (.int .i64 q.n) ∧ w'.cell? ⟨BX, 2, none⟩ = some (.string q.k) ∧ w'.cell? ⟨BX, 3, none⟩ = some (.int .i64 q.i.k) ∧ w'.cell? ⟨BX, 4, none⟩ = some (.string q.i.t) ∧ w'.cell? ⟨BX, 5, none⟩ = some (.slice q.a q.i.l.length q.c) ∧ w'.cell? ⟨BX, 6, none⟩ = some (.bool q.kp) ∧ w'.cell? ⟨BX, 7, none⟩ = some (.int .i64 q.wh))
    (first | exact S3.out | exact S2.out | exact S1.out)
    (first
      | (go_at_call 22; with_reducible refine HP1.out.mono ?_; rintro en8 w8 ⟨rfl, h8⟩; have HP2 := Lib.hid (rput_calls (a := q.a) (c := q.c) (i := q.i) ((h8.pull 3 rfl).pull 3 rfl) (Below.refl _ _) q.k hk q.kp now (rightB q.i) (rightB_iff q.i) (by omega) (by omega)); have S2 := Lib.hid (box9 (h8.pull 1 rfl)); unfold Box9 at S2; clear h8)
      | (go_at_call 28; with_reducible refine HP2.out.mono ?_; rintro en9 w9 ⟨rfl, h9⟩; have H9 := Lib.hid h9; have S3 := Lib.hid (box9 (h9.pull 2 rfl)); unfold Box9 at S3; clear h9))
  go_wp2_with fail
  go_ret
  refine ⟨_, rfl, fun e => ?_, ?_⟩
  · subst e; exact beq_self_eq_true _
  · rw [HA.out.1, HA.out.2]
    have g1 := H9.out.dropAt 2 rfl
    exact g1.pull 1 rfl
set_option maxHeartbeats 16000000 in
set_option maxRecDepth 100000 in
theorem one_3 (h : Hp o w (roT (itemR q.a q.c q.i) :: storeT T m :: refT B m2 :: l)) (hw : Below w.heap.size w wb) (hc : Ctx o) (hok : Ok m) (hok2 : Ok m2) (hk : q.k.size ≤ 1000) (hil : q.i.l.length ≤ 1000) (hn1 : -9223372036854775808 ≤ q.n) (hn2 : q.n ≤ 9223372036854775807) (now : Int) (h0 : 0 ≤ now) (h1 : now ≤ 4611686018427387904) (hm : m.K.length ≤ 250) (hm2 : m2.K.length ≤ 250) (he : m.ev.length ≤ 9000) (he2 : m2.ev.length ≤ 9000) (hkd : q.kd = 3) :
    Calls Tryz.prog 10 #[.pointer (some ⟨T, 0, none⟩), .pointer (some ⟨B, 0, none⟩), .agg #[.int .i64 q.kd, .int .i64 q.n, .string q.k, .int .i64 q.i.k, .string q.i.t, .slice q.a q.i.l.length q.c, .bool q.kp, .int .i64 q.wh, .int .u16 q.wt], .int .i64 now] wb fun e w' => ∃ b, e = .returned (.bool b) ∧ (m = m2 → b = true) ∧ Hp o w' (storeT T (actM q now m) :: refT B (actM q now m2) :: l) := by
  have HA : Hid (actM q now m = dropM q.k now m ∧ actM q now m2 = dropM q.k now m2) := Lib.hid (by unfold actM; simp only [hkd]; exact ⟨rfl, rfl⟩)
  have H1 := Lib.hid ((ro_dup (h.bel hw)).cellsNew (cells9 q) 34)
  clear h hw
  have e0 : (q.kd == 0) = false := by rw [beq_eq_false_iff_ne]; omega
  have e1 : (q.kd == 1) = false := by rw [beq_eq_false_iff_ne]; omega
  have e2 : (q.kd == 2) = false := by rw [beq_eq_false_iff_ne]; omega
  have e3 : (q.kd == 3) = true := by rw [beq_iff_eq]; exact hkd
  clear hkd
  go_enter Tryz.func10, Tryz.ntmps10
  have H1 : Hid (Hp o (wb.alloc (.cells #[.int .i64 q.kd, .int .i64 q.n, .string q.k, .int .i64 q.i.k, .string q.i.t, .slice q.a q.i.l.length q.c, .bool q.kp, .int .i64 q.wh, .int .u16 q.wt] 34)) (cellsT wb.heap.size (cells9 q) :: roT (itemR q.a q.c q.i) :: roT (itemR q.a q.c q.i) :: storeT T m :: refT B m2 :: l)) := H1
  go_upto_region 1 with fail
  generalize wb.alloc (.cells #[.int .i64 q.kd, .int .i64 q.n, .string q.k, .int .i64 q.i.k, .string q.i.t, .slice q.a q.i.l.length q.c, .bool q.kp, .int .i64 q.wh, .int .u16 q.wt] 34) = W0 at *
  generalize wb.heap.size = BX at *
  have b0 := H1.out.cell 0 rfl
  have S1 : Hid (Box9 BX q W0.drew) := Lib.hid (box9 (H1.out.bel ((Below.refl _ _).drew)))
  have HP1 := Lib.hid (drop_calls ((H1.out.bel ((Below.refl _ _).drew)).pull 3 rfl) (Below.refl _ _) hc q.k hk now (by omega) (by omega))
  unfold ptr at HP1
  clear H1
  unfold Box9 at S1
  go_wp2_with fail
  go_region_held3 (fun w' : World => w'.cell? ⟨BX, 1, none⟩ = some (.int .i64 q.n) ∧ w'.cell? ⟨BX, 2, none⟩ = some (.string q.k) ∧ w'.cell? ⟨BX, 3, none⟩ = some (.int .i64 q.i.k) ∧ w'.cell? ⟨BX, 4, none⟩ = some (.string q.i.t) ∧ w'.cell? ⟨BX, 5, none⟩ = some (.slice q.a q.i.l.length q.c) ∧ w'.cell? ⟨BX, 6, none⟩ = some (.bool q.kp) ∧ w'.cell? ⟨BX, 7, none⟩ = some (.int .i64 q.wh))
    (first | exact S3.out | exact S2.out | exact S1.out)
    (first
      | (go_at_call 29; with_reducible refine HP1.out.mono ?_; rintro en8 w8 ⟨rfl, h8⟩; have HP2 := Lib.hid (rdrop_calls (h8.pull 4 rfl) (Below.refl _ _) q.k now (by omega) (by omega)); have S2 := Lib.hid (box9 (h8.pull 1 rfl)); unfold Box9 at S2; clear h8)
      | (go_at_call 30; with_reducible refine HP2.out.mono ?_; rintro en9 w9 ⟨rfl, h9⟩; have H9 := Lib.hid h9; have S3 := Lib.hid (box9 (h9.pull 2 rfl)); unfold Box9 at S3; clear h9))
  go_wp2_with fail
  go_ret
  refine ⟨_, rfl, fun e => ?_, ?_⟩
  · subst e; exact beq_self_eq_true _
  · rw [HA.out.1, HA.out.2]
    have g1 := ((H9.out.dropAt 2 rfl).dropAt 2 rfl).dropAt 2 rfl
    exact g1.pull 1 rfl
set_option maxHeartbeats 16000000 in
set_option maxRecDepth 100000 in
theorem one_4 (h : Hp o w (roT (itemR q.a q.c q.i) :: storeT T m :: refT B m2 :: l)) (hw : Below w.heap.size w wb) (hc : Ctx o) (hok : Ok m) (hok2 : Ok m2) (hk : q.k.size ≤ 1000) (hil : q.i.l.length ≤ 1000) (hn1 : -9223372036854775808 ≤ q.n) (hn2 : q.n ≤ 9223372036854775807) (now : Int) (h0 : 0 ≤ now) (h1 : now ≤ 4611686018427387904) (hm : m.K.length ≤ 250) (hm2 : m2.K.length ≤ 250) (he : m.ev.length ≤ 9000) (he2 : m2.ev.length ≤ 9000) (hkd : q.kd = 4) :
    Calls Tryz.prog 10 #[.pointer (some ⟨T, 0, none⟩), .pointer (some ⟨B, 0, none⟩), .agg #[.int .i64 q.kd, .int .i64 q.n, .string q.k, .int .i64 q.i.k, .string q.i.t, .slice q.a q.i.l.length q.c, .bool q.kp, .int .i64 q.wh, .int .u16 q.wt], .int .i64 now] wb fun e w' => ∃ b, e = .returned (.bool b) ∧ (m = m2 → b = true) ∧ Hp o w' (storeT T (actM q now m) :: refT B (actM q now m2) :: l) := by
  have HA : Hid (actM q now m = expireM q.k q.wh now m ∧ actM q now m2 = expireM q.k q.wh now m2) := Lib.hid (by unfold actM; simp only [hkd]; exact ⟨rfl, rfl⟩)
  have H1 := Lib.hid ((ro_dup (h.bel hw)).cellsNew (cells9 q) 34)
  clear h hw
  have e0 : (q.kd == 0) = false := by rw [beq_eq_false_iff_ne]; omega
  have e1 : (q.kd == 1) = false := by rw [beq_eq_false_iff_ne]; omega
  have e2 : (q.kd == 2) = false := by rw [beq_eq_false_iff_ne]; omega
  have e3 : (q.kd == 3) = false := by rw [beq_eq_false_iff_ne]; omega
  have e4 : (q.kd == 4) = true := by rw [beq_iff_eq]; exact hkd
  clear hkd
  go_enter Tryz.func10, Tryz.ntmps10
  have H1 : Hid (Hp o (wb.alloc (.cells #[.int .i64 q.kd, .int .i64 q.n, .string q.k, .int .i64 q.i.k, .string q.i.t, .slice q.a q.i.l.length q.c, .bool q.kp, .int .i64 q.wh, .int .u16 q.wt] 34)) (cellsT wb.heap.size (cells9 q) :: roT (itemR q.a q.c q.i) :: roT (itemR q.a q.c q.i) :: storeT T m :: refT B m2 :: l)) := H1
  go_upto_region 1 with fail
  generalize wb.alloc (.cells #[.int .i64 q.kd, .int .i64 q.n, .string q.k, .int .i64 q.i.k, .string q.i.t, .slice q.a q.i.l.length q.c, .bool q.kp, .int .i64 q.wh, .int .u16 q.wt] 34) = W0 at *
  generalize wb.heap.size = BX at *
  have b0 := H1.out.cell 0 rfl
  have S1 : Hid (Box9 BX q W0.drew) := Lib.hid (box9 (H1.out.bel ((Below.refl _ _).drew)))
  have HP1 := Lib.hid (expire_calls ((H1.out.bel ((Below.refl _ _).drew)).pull 3 rfl) (Below.refl _ _) hok hc q.k hk q.wh now (by omega) (by omega))
  unfold ptr at HP1
  clear H1
  unfold Box9 at S1
  go_wp2_with fail
  go_region_held3 (fun w' : World => w'.cell? ⟨BX, 1, none⟩ = some (.int .i64 q.n) ∧ w'.cell? ⟨BX, 2, none⟩ = some (.string q.k) ∧ w'.cell? ⟨BX, 3, none⟩ = some (.int .i64 q.i.k) ∧ w'.cell? ⟨BX, 4, none⟩ = some (.string q.i.t) ∧ w'.cell? ⟨BX, 5, none⟩ = some (.slice q.a q.i.l.length q.c) ∧ w'.cell? ⟨BX, 6, none⟩ = some (.bool q.kp) ∧ w'.cell? ⟨BX, 7, none⟩ = some (.int .i64 q.wh))
    (first | exact S3.out | exact S2.out | exact S1.out)
    (first
      | (go_at_call 31; with_reducible refine HP1.out.mono ?_; rintro en8 w8 ⟨rfl, h8⟩; have HP2 := Lib.hid (rexpire_calls (h8.pull 4 rfl) (Below.refl _ _) hok2 q.k q.wh now h0 (by omega) (by omega)); have S2 := Lib.hid (box9 (h8.pull 1 rfl)); unfold Box9 at S2; clear h8)
      | (go_at_call 32; with_reducible refine HP2.out.mono ?_; rintro en9 w9 ⟨rfl, h9⟩; have H9 := Lib.hid h9; have S3 := Lib.hid (box9 (h9.pull 2 rfl)); unfold Box9 at S3; clear h9))
  go_wp2_with fail
  go_ret
  refine ⟨_, rfl, fun e => ?_, ?_⟩
  · subst e; exact beq_self_eq_true _
  · rw [HA.out.1, HA.out.2]
    have g1 := ((H9.out.dropAt 2 rfl).dropAt 2 rfl).dropAt 2 rfl
    exact g1.pull 1 rfl
set_option maxHeartbeats 16000000 in
set_option maxRecDepth 100000 in
theorem one_5 (h : Hp o w (roT (itemR q.a q.c q.i) :: storeT T m :: refT B m2 :: l)) (hw : Below w.heap.size w wb) (hc : Ctx o) (hok : Ok m) (hok2 : Ok m2) (hk : q.k.size ≤ 1000) (hil : q.i.l.length ≤ 1000) (hn1 : -9223372036854775808 ≤ q.n) (hn2 : q.n ≤ 9223372036854775807) (now : Int) (h0 : 0 ≤ now) (h1 : now ≤ 4611686018427387904) (hm : m.K.length ≤ 250) (hm2 : m2.K.length ≤ 250) (he : m.ev.length ≤ 9000) (he2 : m2.ev.length ≤ 9000) (hkd : q.kd = 5) :
    Calls Tryz.prog 10 #[.pointer (some ⟨T, 0, none⟩), .pointer (some ⟨B, 0, none⟩), .agg #[.int .i64 q.kd, .int .i64 q.n, .string q.k, .int .i64 q.i.k, .string q.i.t, .slice q.a q.i.l.length q.c, .bool q.kp, .int .i64 q.wh, .int .u16 q.wt], .int .i64 now] wb fun e w' => ∃ b, e = .returned (.bool b) ∧ (m = m2 → b = true) ∧ Hp o w' (storeT T (actM q now m) :: refT B (actM q now m2) :: l) := by
  have HA : Hid (actM q now m = persistM q.k now m ∧ actM q now m2 = persistM q.k now m2) := Lib.hid (by unfold actM; simp only [hkd]; exact ⟨rfl, rfl⟩)
  have H1 := Lib.hid ((ro_dup (h.bel hw)).cellsNew (cells9 q) 34)
  clear h hw
  have e0 : (q.kd == 0) = false := by rw [beq_eq_false_iff_ne]; omega
  have e1 : (q.kd == 1) = false := by rw [beq_eq_false_iff_ne]; omega
  have e2 : (q.kd == 2) = false := by rw [beq_eq_false_iff_ne]; omega
  have e3 : (q.kd == 3) = false := by rw [beq_eq_false_iff_ne]; omega
  have e4 : (q.kd == 4) = false := by rw [beq_eq_false_iff_ne]; omega
  have e5 : (q.kd == 5) = true := by rw [beq_iff_eq]; exact hkd
  clear hkd
  go_enter Tryz.func10, Tryz.ntmps10
  have H1 : Hid (Hp o (wb.alloc (.cells #[.int .i64 q.kd, .int .i64 q.n, .string q.k, .int .i64 q.i.k, .string q.i.t, .slice q.a q.i.l.length q.c, .bool q.kp, .int .i64 q.wh, .int .u16 q.wt] 34)) (cellsT wb.heap.size (cells9 q) :: roT (itemR q.a q.c q.i) :: roT (itemR q.a q.c q.i) :: storeT T m :: refT B m2 :: l)) := H1
  go_upto_region 1 with fail
  generalize wb.alloc (.cells #[.int .i64 q.kd, .int .i64 q.n, .string q.k, .int .i64 q.i.k, .string q.i.t, .slice q.a q.i.l.length q.c, .bool q.kp, .int .i64 q.wh, .int .u16 q.wt] 34) = W0 at *
  generalize wb.heap.size = BX at *
  have b0 := H1.out.cell 0 rfl
  have S1 : Hid (Box9 BX q W0.drew) := Lib.hid (box9 (H1.out.bel ((Below.refl _ _).drew)))
  have HP1 := Lib.hid (persist_calls ((H1.out.bel ((Below.refl _ _).drew)).pull 3 rfl) (Below.refl _ _) hok hc q.k hk now (by omega) (by omega))
  unfold ptr at HP1
  clear H1
  unfold Box9 at S1
  go_wp2_with fail
  go_region_held3 (fun w' : World => w'.cell? ⟨BX, 1, none⟩ = some (.int .i64 q.n) ∧ w'.cell? ⟨BX, 2, none⟩ = some (.string q.k) ∧ w'.cell? ⟨BX, 3, none⟩ = some (.int .i64 q.i.k) ∧ w'.cell? ⟨BX, 4, none⟩ = some (.string q.i.t) ∧ w'.cell? ⟨BX, 5, none⟩ = some (.slice q.a q.i.l.length q.c) ∧ w'.cell? ⟨BX, 6, none⟩ = some (.bool q.kp) ∧ w'.cell? ⟨BX, 7, none⟩ = some (.int .i64 q.wh))
    (first | exact S3.out | exact S2.out | exact S1.out)
    (first
      | (go_at_call 33; with_reducible refine HP1.out.mono ?_; rintro en8 w8 ⟨rfl, h8⟩; have HP2 := Lib.hid (rpersist_calls (h8.pull 4 rfl) (Below.refl _ _) hok2 q.k now (by omega) (by omega)); have S2 := Lib.hid (box9 (h8.pull 1 rfl)); unfold Box9 at S2; clear h8)
      | (go_at_call 34; with_reducible refine HP2.out.mono ?_; rintro en9 w9 ⟨rfl, h9⟩; have H9 := Lib.hid h9; have S3 := Lib.hid (box9 (h9.pull 2 rfl)); unfold Box9 at S3; clear h9))
  go_wp2_with fail
  go_ret
  refine ⟨_, rfl, fun e => ?_, ?_⟩
  · subst e; exact beq_self_eq_true _
  · rw [HA.out.1, HA.out.2]
    have g1 := ((H9.out.dropAt 2 rfl).dropAt 2 rfl).dropAt 2 rfl
    exact g1.pull 1 rfl
set_option maxHeartbeats 16000000 in
set_option maxRecDepth 100000 in
theorem one_6 (h : Hp o w (roT (itemR q.a q.c q.i) :: storeT T m :: refT B m2 :: l)) (hw : Below w.heap.size w wb) (hc : Ctx o) (hok : Ok m) (hok2 : Ok m2) (hk : q.k.size ≤ 1000) (hil : q.i.l.length ≤ 1000) (hn1 : -9223372036854775808 ≤ q.n) (hn2 : q.n ≤ 9223372036854775807) (now : Int) (h0 : 0 ≤ now) (h1 : now ≤ 4611686018427387904) (hm : m.K.length ≤ 250) (hm2 : m2.K.length ≤ 250) (he : m.ev.length ≤ 9000) (he2 : m2.ev.length ≤ 9000) (hkd : q.kd = 6) :
    Calls Tryz.prog 10 #[.pointer (some ⟨T, 0, none⟩), .pointer (some ⟨B, 0, none⟩), .agg #[.int .i64 q.kd, .int .i64 q.n, .string q.k, .int .i64 q.i.k, .string q.i.t, .slice q.a q.i.l.length q.c, .bool q.kp, .int .i64 q.wh, .int .u16 q.wt], .int .i64 now] wb fun e w' => ∃ b, e = .returned (.bool b) ∧ (m = m2 → b = true) ∧ Hp o w' (storeT T (actM q now m) :: refT B (actM q now m2) :: l) := by
  have HA : Hid (actM q now m = endM q.k now m ∧ actM q now m2 = endM q.k now m2) := Lib.hid (by unfold actM; simp only [hkd]; exact ⟨rfl, rfl⟩)
  have H1 := Lib.hid ((ro_dup (h.bel hw)).cellsNew (cells9 q) 34)
  clear h hw
  have e0 : (q.kd == 0) = false := by rw [beq_eq_false_iff_ne]; omega
  have e1 : (q.kd == 1) = false := by rw [beq_eq_false_iff_ne]; omega
  have e2 : (q.kd == 2) = false := by rw [beq_eq_false_iff_ne]; omega
  have e3 : (q.kd == 3) = false := by rw [beq_eq_false_iff_ne]; omega
  have e4 : (q.kd == 4) = false := by rw [beq_eq_false_iff_ne]; omega
  have e5 : (q.kd == 5) = false := by rw [beq_eq_false_iff_ne]; omega
  have e6 : (q.kd == 6) = true := by rw [beq_iff_eq]; exact hkd
  clear hkd
  go_enter Tryz.func10, Tryz.ntmps10
  have H1 : Hid (Hp o (wb.alloc (.cells #[.int .i64 q.kd, .int .i64 q.n, .string q.k, .int .i64 q.i.k, .string q.i.t, .slice q.a q.i.l.length q.c, .bool q.kp, .int .i64 q.wh, .int .u16 q.wt] 34)) (cellsT wb.heap.size (cells9 q) :: roT (itemR q.a q.c q.i) :: roT (itemR q.a q.c q.i) :: storeT T m :: refT B m2 :: l)) := H1
  go_upto_region 1 with fail
  generalize wb.alloc (.cells #[.int .i64 q.kd, .int .i64 q.n, .string q.k, .int .i64 q.i.k, .string q.i.t, .slice q.a q.i.l.length q.c, .bool q.kp, .int .i64 q.wh, .int .u16 q.wt] 34) = W0 at *
  generalize wb.heap.size = BX at *
  have b0 := H1.out.cell 0 rfl
  have S1 : Hid (Box9 BX q W0.drew) := Lib.hid (box9 (H1.out.bel ((Below.refl _ _).drew)))
  have HP1 := Lib.hid (ttl_calls ((H1.out.bel ((Below.refl _ _).drew)).pull 3 rfl) (Below.refl _ _) hok hc q.k hk now h0 h1 (by omega) (by omega))
  unfold ptr at HP1
  clear H1
  unfold Box9 at S1
  go_wp2_with fail
  go_region_held3 (fun w' : World => w'.cell? ⟨BX, 1, none⟩ = some (.int .i64 q.n) ∧ w'.cell? ⟨BX, 2, none⟩ = some (.string q.k) ∧ w'.cell? ⟨BX, 3, none⟩ = some (.int .i64 q.i.k) ∧ w'.cell? ⟨BX, 4, none⟩ = some (.string q.i.t) ∧ w'.cell? ⟨BX, 5, none⟩ = some (.slice q.a q.i.l.length q.c) ∧ w'.cell? ⟨BX, 6, none⟩ = some (.bool q.kp) ∧ w'.cell? ⟨BX, 7, none⟩ = some (.int .i64 q.wh))
    (first | exact S3.out | exact S2.out | exact S1.out)
    (first
      | (go_at_call 35; with_reducible refine HP1.out.mono ?_; rintro en8 w8 ⟨rfl, h8⟩; have HP2 := Lib.hid (rttl_calls (h8.pull 4 rfl) (Below.refl _ _) q.k now h0 h1 (by omega) (by omega)); have S2 := Lib.hid (box9 (h8.pull 1 rfl)); unfold Box9 at S2; clear h8)
      | (go_at_call 36; with_reducible refine HP2.out.mono ?_; rintro en9 w9 ⟨rfl, h9⟩; have H9 := Lib.hid h9; have S3 := Lib.hid (box9 (h9.pull 2 rfl)); unfold Box9 at S3; clear h9))
  go_wp2_with fail
  go_ret
  refine ⟨_, rfl, fun e => ?_, ?_⟩
  · subst e; exact beq_self_eq_true _
  · rw [HA.out.1, HA.out.2]
    have g1 := ((H9.out.dropAt 2 rfl).dropAt 2 rfl).dropAt 2 rfl
    exact g1.pull 1 rfl
set_option maxHeartbeats 16000000 in
set_option maxRecDepth 100000 in
theorem one_7 (h : Hp o w (roT (itemR q.a q.c q.i) :: storeT T m :: refT B m2 :: l)) (hw : Below w.heap.size w wb) (hc : Ctx o) (hok : Ok m) (hok2 : Ok m2) (hk : q.k.size ≤ 1000) (hil : q.i.l.length ≤ 1000) (hn1 : -9223372036854775808 ≤ q.n) (hn2 : q.n ≤ 9223372036854775807) (now : Int) (h0 : 0 ≤ now) (h1 : now ≤ 4611686018427387904) (hm : m.K.length ≤ 250) (hm2 : m2.K.length ≤ 250) (he : m.ev.length ≤ 9000) (he2 : m2.ev.length ≤ 9000) (hkd : q.kd = 7) :
    Calls Tryz.prog 10 #[.pointer (some ⟨T, 0, none⟩), .pointer (some ⟨B, 0, none⟩), .agg #[.int .i64 q.kd, .int .i64 q.n, .string q.k, .int .i64 q.i.k, .string q.i.t, .slice q.a q.i.l.length q.c, .bool q.kp, .int .i64 q.wh, .int .u16 q.wt], .int .i64 now] wb fun e w' => ∃ b, e = .returned (.bool b) ∧ (m = m2 → b = true) ∧ Hp o w' (storeT T (actM q now m) :: refT B (actM q now m2) :: l) := by
  have HA : Hid (actM q now m = swM (dueK now q.n m) m ∧ actM q now m2 = swM (dueK now q.n m2) m2) := Lib.hid (by unfold actM; simp only [hkd]; exact ⟨rfl, rfl⟩)
  have H1 := Lib.hid ((ro_dup (h.bel hw)).cellsNew (cells9 q) 34)
  clear h hw
  have e0 : (q.kd == 0) = false := by rw [beq_eq_false_iff_ne]; omega
  have e1 : (q.kd == 1) = false := by rw [beq_eq_false_iff_ne]; omega
  have e2 : (q.kd == 2) = false := by rw [beq_eq_false_iff_ne]; omega
  have e3 : (q.kd == 3) = false := by rw [beq_eq_false_iff_ne]; omega
  have e4 : (q.kd == 4) = false := by rw [beq_eq_false_iff_ne]; omega
  have e5 : (q.kd == 5) = false := by rw [beq_eq_false_iff_ne]; omega
  have e6 : (q.kd == 6) = false := by rw [beq_eq_false_iff_ne]; omega
  have e7 : (q.kd == 7) = true := by rw [beq_iff_eq]; exact hkd
  clear hkd
  go_enter Tryz.func10, Tryz.ntmps10
  have H1 : Hid (Hp o (wb.alloc (.cells #[.int .i64 q.kd, .int .i64 q.n, .string q.k, .int .i64 q.i.k, .string q.i.t, .slice q.a q.i.l.length q.c, .bool q.kp, .int .i64 q.wh, .int .u16 q.wt] 34)) (cellsT wb.heap.size (cells9 q) :: roT (itemR q.a q.c q.i) :: roT (itemR q.a q.c q.i) :: storeT T m :: refT B m2 :: l)) := H1
  go_upto_region 1 with fail
  generalize wb.alloc (.cells #[.int .i64 q.kd, .int .i64 q.n, .string q.k, .int .i64 q.i.k, .string q.i.t, .slice q.a q.i.l.length q.c, .bool q.kp, .int .i64 q.wh, .int .u16 q.wt] 34) = W0 at *
  generalize wb.heap.size = BX at *
  have b0 := H1.out.cell 0 rfl
  have S1 : Hid (Box9 BX q W0.drew) := Lib.hid (box9 (H1.out.bel ((Below.refl _ _).drew)))
  have HP1 := Lib.hid (sweep_calls ((H1.out.bel ((Below.refl _ _).drew)).pull 3 rfl) (Below.refl _ _) hok hc now q.n hn1 hn2 (by omega) (by omega))
  unfold ptr at HP1
  clear H1
  unfold Box9 at S1
  go_wp2_with fail
  go_region_held3 (fun w' : World => w'.cell? ⟨BX, 1, none⟩ = some (.int .i64 q.n) ∧ w'.cell? ⟨BX, 2, none⟩ = some (.string q.k) ∧ w'.cell? ⟨BX, 3, none⟩ = some (.int .i64 q.i.k) ∧ w'.cell? ⟨BX, 4, none⟩ = some (.string q.i.t) ∧ w'.cell? ⟨BX, 5, none⟩ = some (.slice q.a q.i.l.length q.c) ∧ w'.cell? ⟨BX, 6, none⟩ = some (.bool q.kp) ∧ w'.cell? ⟨BX, 7, none⟩ = some (.int .i64 q.wh))
    (first | exact S3.out | exact S2.out | exact S1.out)
    (first
      | (go_at_call 37; with_reducible refine HP1.out.mono ?_; rintro en8 w8 ⟨rfl, h8⟩; have HP2 := Lib.hid (rsweep_calls (h8.pull 4 rfl) (Below.refl _ _) now q.n hn1 hn2 (by omega) (by omega)); have S2 := Lib.hid (box9 (h8.pull 1 rfl)); unfold Box9 at S2; clear h8)
      | (go_at_call 38; with_reducible refine HP2.out.mono ?_; rintro en9 w9 ⟨rfl, h9⟩; have H9 := Lib.hid h9; have S3 := Lib.hid (box9 (h9.pull 2 rfl)); unfold Box9 at S3; clear h9))
  go_wp2_with fail
  go_ret
  refine ⟨_, rfl, fun e => ?_, ?_⟩
  · subst e; exact beq_self_eq_true _
  · rw [HA.out.1, HA.out.2]
    have g1 := ((H9.out.dropAt 2 rfl).dropAt 2 rfl).dropAt 2 rfl
    exact g1.pull 1 rfl
set_option maxHeartbeats 16000000 in
set_option maxRecDepth 100000 in
theorem one_8 (h : Hp o w (roT (itemR q.a q.c q.i) :: storeT T m :: refT B m2 :: l)) (hw : Below w.heap.size w wb) (hc : Ctx o) (hok : Ok m) (hok2 : Ok m2) (hk : q.k.size ≤ 1000) (hil : q.i.l.length ≤ 1000) (hn1 : -9223372036854775808 ≤ q.n) (hn2 : q.n ≤ 9223372036854775807) (now : Int) (h0 : 0 ≤ now) (h1 : now ≤ 4611686018427387904) (hm : m.K.length ≤ 250) (hm2 : m2.K.length ≤ 250) (he : m.ev.length ≤ 9000) (he2 : m2.ev.length ≤ 9000) (g0 : ¬ q.kd = 0) (g1 : ¬ q.kd = 1) (g2 : ¬ q.kd = 2) (g3 : ¬ q.kd = 3) (g4 : ¬ q.kd = 4) (g5 : ¬ q.kd = 5) (g6 : ¬ q.kd = 6) (g7 : ¬ q.kd = 7) :
    Calls Tryz.prog 10 #[.pointer (some ⟨T, 0, none⟩), .pointer (some ⟨B, 0, none⟩), .agg #[.int .i64 q.kd, .int .i64 q.n, .string q.k, .int .i64 q.i.k, .string q.i.t, .slice q.a q.i.l.length q.c, .bool q.kp, .int .i64 q.wh, .int .u16 q.wt], .int .i64 now] wb fun e w' => ∃ b, e = .returned (.bool b) ∧ (m = m2 → b = true) ∧ Hp o w' (storeT T (actM q now m) :: refT B (actM q now m2) :: l) := by
  have HA : Hid (actM q now m = flushM m ∧ actM q now m2 = flushM m2) := Lib.hid (by unfold actM; simp only [if_neg g0, if_neg g1, if_neg g2, if_neg g3, if_neg g4, if_neg g5, if_neg g6, if_neg g7]; exact ⟨trivial, trivial⟩)
  have H1 := Lib.hid ((ro_dup (h.bel hw)).cellsNew (cells9 q) 34)
  clear h hw
  have e0 : (q.kd == 0) = false := by rw [beq_eq_false_iff_ne]; omega
  have e1 : (q.kd == 1) = false := by rw [beq_eq_false_iff_ne]; omega
  have e2 : (q.kd == 2) = false := by rw [beq_eq_false_iff_ne]; omega
  have e3 : (q.kd == 3) = false := by rw [beq_eq_false_iff_ne]; omega
  have e4 : (q.kd == 4) = false := by rw [beq_eq_false_iff_ne]; omega
  have e5 : (q.kd == 5) = false := by rw [beq_eq_false_iff_ne]; omega
  have e6 : (q.kd == 6) = false := by rw [beq_eq_false_iff_ne]; omega
  have e7 : (q.kd == 7) = false := by rw [beq_eq_false_iff_ne]; omega
  clear g0 g1 g2 g3 g4 g5 g6 g7
  go_enter Tryz.func10, Tryz.ntmps10
  have H1 : Hid (Hp o (wb.alloc (.cells #[.int .i64 q.kd, .int .i64 q.n, .string q.k, .int .i64 q.i.k, .string q.i.t, .slice q.a q.i.l.length q.c, .bool q.kp, .int .i64 q.wh, .int .u16 q.wt] 34)) (cellsT wb.heap.size (cells9 q) :: roT (itemR q.a q.c q.i) :: roT (itemR q.a q.c q.i) :: storeT T m :: refT B m2 :: l)) := H1
  go_upto_region 1 with fail
  generalize wb.alloc (.cells #[.int .i64 q.kd, .int .i64 q.n, .string q.k, .int .i64 q.i.k, .string q.i.t, .slice q.a q.i.l.length q.c, .bool q.kp, .int .i64 q.wh, .int .u16 q.wt] 34) = W0 at *
  generalize wb.heap.size = BX at *
  have b0 := H1.out.cell 0 rfl
  have b2 := H1.out.cell 2 rfl
  have HP1 := Lib.hid (flush_calls (H1.out.pull 3 rfl) (Below.refl _ _) hok (by omega))
  unfold ptr at HP1
  clear H1 b2
  go_wp2_with fail
  refine HP1.out.mono ?_; rintro en w1 ⟨rfl, h2⟩
  have HP2 := Lib.hid (rflush_calls (h2.pull 4 rfl) (Below.refl _ _) hok2 (by omega))
  clear h2 HP1 b0
  go_wp2_with fail
  refine HP2.out.mono ?_; rintro en w2 ⟨rfl, h3⟩
  have H3 := Lib.hid h3
  clear h3 HP2
  go_wp2_with fail
  go_ret
  refine ⟨true, rfl, fun _ => rfl, ?_⟩
  rw [HA.out.1, HA.out.2]
  have g1 := ((H3.out.dropAt 2 rfl).dropAt 2 rfl).dropAt 2 rfl
  exact g1.pull 1 rfl
theorem one_calls (h : Hp o w (roT (itemR q.a q.c q.i) :: storeT T m :: refT B m2 :: l)) (hw : Below w.heap.size w wb) (hc : Ctx o) (hok : Ok m) (hok2 : Ok m2) (hk : q.k.size ≤ 1000) (hil : q.i.l.length ≤ 1000) (hn1 : -9223372036854775808 ≤ q.n) (hn2 : q.n ≤ 9223372036854775807) (now : Int) (h0 : 0 ≤ now) (h1 : now ≤ 4611686018427387904) (hm : m.K.length ≤ 250) (hm2 : m2.K.length ≤ 250) (he : m.ev.length ≤ 9000) (he2 : m2.ev.length ≤ 9000) :
    Calls Tryz.prog 10 #[.pointer (some ⟨T, 0, none⟩), .pointer (some ⟨B, 0, none⟩), .agg #[.int .i64 q.kd, .int .i64 q.n, .string q.k, .int .i64 q.i.k, .string q.i.t, .slice q.a q.i.l.length q.c, .bool q.kp, .int .i64 q.wh, .int .u16 q.wt], .int .i64 now] wb fun e w' => ∃ b, e = .returned (.bool b) ∧ (m = m2 → b = true) ∧ Hp o w' (storeT T (actM q now m) :: refT B (actM q now m2) :: l) := by
  by_cases g0 : q.kd = 0
  · exact one_0 h hw hc hok hok2 hk hil hn1 hn2 now h0 h1 hm hm2 he he2 g0
  by_cases g1 : q.kd = 1
  · exact one_1 h hw hc hok hok2 hk hil hn1 hn2 now h0 h1 hm hm2 he he2 g1
  by_cases g2 : q.kd = 2
  · exact one_2 h hw hc hok hok2 hk hil hn1 hn2 now h0 h1 hm hm2 he he2 g2
  by_cases g3 : q.kd = 3
  · exact one_3 h hw hc hok hok2 hk hil hn1 hn2 now h0 h1 hm hm2 he he2 g3
  by_cases g4 : q.kd = 4
  · exact one_4 h hw hc hok hok2 hk hil hn1 hn2 now h0 h1 hm hm2 he he2 g4
  by_cases g5 : q.kd = 5
  · exact one_5 h hw hc hok hok2 hk hil hn1 hn2 now h0 h1 hm hm2 he he2 g5
  by_cases g6 : q.kd = 6
  · exact one_6 h hw hc hok hok2 hk hil hn1 hn2 now h0 h1 hm hm2 he he2 g6
  by_cases g7 : q.kd = 7
  · exact one_7 h hw hc hok hok2 hk hil hn1 hn2 now h0 h1 hm hm2 he he2 g7
  exact one_8 h hw hc hok hok2 hk hil hn1 hn2 now h0 h1 hm hm2 he he2 g0 g1 g2 g3 g4 g5 g6 g7
end
end Go.Proofs.YtmjlhmohglbecaaGreatDoor.Sa
/- StoreRuns. Condition: the library's variables hold what start-up lays. -/
namespace Go.Proofs.YtmjlhmohglbecaaGreatDoor.Sa
set_option linter.unusedVariables false
set_option linter.unusedSimpArgs false
open Go.ChangeShapes Go.WideShapes Go.ChangeAt Go.RowKit
open Sp (Th Hp Stays All Ro roT rowT cellsT exT puT star)
theorem evM_evl {m : Md} : (evM m).ev.length + (evM m).K.length ≤ m.ev.length + m.K.length := evM_ind (P := fun x => x.ev.length + x.K.length ≤ m.ev.length + m.K.length) (fun a x y r h e hb => by
  have h1 : (loseM x 4 a).ev.length = a.ev.length + 1 := lose_ev x 4 a
  have h2 : (Ca.dropK x a.K).length + 1 ≤ a.K.length := by
    rw [e]
    unfold Ca.dropK
    rw [List.filter_cons_of_neg (by simp)]
    have := List.length_filter_le (fun z => !decide (z = x)) (y :: r)
    simp only [List.length_cons] at this ⊢
    omega
  have h3 : (loseM x 4 a).K = Ca.dropK x a.K := rfl
  rw [h1, h3]
  omega) (Nat.le_refl _)
theorem act_len {m : Md} (hok : Ok m) (q : Ac) (now : Int) : (actM q now m).K.length ≤ m.K.length + 1 ∧ (actM q now m).ev.length ≤ m.ev.length + m.K.length + 4 := by
  have e1 := end_len q.k now m
  have e2 := end_ev q.k now m
  unfold actM
  repeat' split
  · exact ⟨by rw [get_len (hok.end_ _ _).toPre]; omega, by
      have : (getM q.k (endM q.k now m)).ev = (endM q.k now m).ev := by unfold getM; split <;> rfl
      rw [this]; omega⟩
  · exact ⟨by omega, by omega⟩
  · unfold putM
    split
    · exact ⟨by omega, by omega⟩
    · split
      · exact ⟨by omega, by omega⟩
      · have h1 := evM_len (setM q.k q.i q.kp (endM q.k now m))
        have h2 := evM_evl (m := setM q.k q.i q.kp (endM q.k now m))
        have h3 := set_len q.k q.i q.kp (endM q.k now m)
        have h4 := set_evl q.k q.i q.kp (endM q.k now m)
        exact ⟨by omega, by omega⟩
  · have h1 := gone_len q.k 2 (endM q.k now m)
    have h2 := gone_ev q.k 2 (endM q.k now m)
    exact ⟨by show (goneM q.k 2 _).K.length ≤ _; omega, by show (goneM q.k 2 _).ev.length ≤ _; omega⟩
  · unfold expireM
    split
    · have h1 := gone_len q.k 2 (endM q.k now m)
      have h2 := gone_ev q.k 2 (endM q.k now m)
      exact ⟨by omega, by omega⟩
    · split
      · have h3 : (dueM q.k (min q.wh 4611686018427387904) (endM q.k now m)).ev.length = (endM q.k now m).ev.length + 1 := by show (_ ++ [_]).length = _; simp
        exact ⟨by show (endM q.k now m).K.length ≤ _; omega, by omega⟩
      · exact ⟨by omega, by omega⟩
  · unfold persistM
    split
    · have h3 : (undueM q.k (endM q.k now m)).ev.length = (endM q.k now m).ev.length + 1 := by show (_ ++ [_]).length = _; simp
      exact ⟨by show (endM q.k now m).K.length ≤ _; omega, by omega⟩
    · exact ⟨by omega, by omega⟩
  · exact ⟨by omega, by omega⟩
  · have h1 := sw_len (dueK now q.n m) m
    have h2 := swM_ev (dueK now q.n m) m
    have h3 := dueK_len now q.n m
    have h4 := hok.sl
    exact ⟨by omega, by omega⟩
  · exact ⟨by show ([] : List ByteArray).length ≤ _; simp, by show (m.ev ++ [_]).length ≤ _; simp; omega⟩
theorem ate {o w : World} {l : List Th} {v : Value} {E : List (Int × ByteArray)} (h : Hp o w (evsT v E :: l)) : ∃ a c, v = .slice a E.length c ∧ AtE w a E := by
  obtain ⟨a, c, rfl, -, -, ha⟩ := h.rowForm
  exact ⟨a, c, rfl, fun hp => by
    obtain ⟨g, rfl⟩ := ha hp
    exact ⟨g, rfl, fun i hi => evs_cell h hi⟩⟩
def Box10 (BX : Nat) (q : Ac) (w : World) : Prop := w.cell? ⟨BX, 0, none⟩ = some (.int .i64 q.kd) ∧ w.cell? ⟨BX, 1, none⟩ = some (.int .i64 q.n) ∧ w.cell? ⟨BX, 2, none⟩ = some (.string q.k) ∧ w.cell? ⟨BX, 3, none⟩ = some (.int .i64 q.i.k) ∧ w.cell? ⟨BX, 4, none⟩ = some (.string q.i.t) ∧ w.cell? ⟨BX, 5, none⟩ = some (.slice q.a q.i.l.length q.c) ∧ w.cell? ⟨BX, 6, none⟩ = some (.bool q.kp) ∧ w.cell? ⟨BX, 7, none⟩ = some (.int .i64 q.wh) ∧ w.cell? ⟨BX, 8, none⟩ = some (.int .u16 q.wt)
theorem box10 {o w : World} {l : List Th} {BX : Nat} {q : Ac} (h : Hp o w (cellsT BX (cells9 q) :: l)) : Box10 BX q w := ⟨h.cell 0 rfl, h.cell 1 rfl, h.cell 2 rfl, h.cell 3 rfl, h.cell 4 rfl, h.cell 5 rfl, h.cell 6 rfl, h.cell 7 rfl, h.cell 8 rfl⟩
theorem ref_len {o w : World} {l : List Th} {B : Nat} {m : Md} (h : Hp o w (refT B m :: l)) : ∃ (a : Option Addr) (c n : Nat), w.cell? ⟨B, 0, none⟩ = some (.slice a n c) ∧ n = m.K.length := by
  obtain ⟨cv, C, ev, hr, h⟩ := ref_open h
  obtain ⟨a, cc, rfl, -, -, -⟩ := (h.pull 1 rfl).rowForm
  exact ⟨a, cc, C.length, h.cell 0 rfl, hr.len⟩
set_option maxHeartbeats 32000000 in
set_option maxRecDepth 100000 in
theorem storeRuns (w : World) (hc : Ctx w) (bud : Int) (xa : Option Addr) (xc : Nat) (l : List Ac) (hI : InA w xa l) (hB : ∀ i (h : i < l.length), (-9223372036854775808 ≤ l[i].n ∧ l[i].n ≤ 9223372036854775807) ∧ (-9223372036854775808 ≤ l[i].wh ∧ l[i].wh ≤ 9223372036854775807) ∧ l[i].wt ≤ 65535) :
    Calls Tryz.prog 3 #[.int .i64 bud, .slice xa l.length xc] w fun e w' => e = .returned (.bool true) ∧ Below w.heap.size w w' := by
  have HA := Lib.hid (storeAlive w hc)
  have HI := Lib.hid hI
  have HBd := Lib.hid hB
  clear hI hB
  go_enter Tryz.func3, Tryz.ntmps3
  go_wp2_with fail
  refine HA.out.mono ?_; rintro en w1 ⟨rfl, hb1⟩
  have HB1 := Lib.hid hb1
  have HG := Lib.hid (great_calls w1 xa xc _ l rfl (HI.out.below (Nat.le_refl _) hb1))
  clear HA hb1
  go_wp2_with fail
  refine HG.out.mono ?_; rintro en w2 ⟨(rfl | ⟨rfl, hok⟩), hb2⟩
  · have HB2 := Lib.hid (Sp.bstep HB1.out hb2)
    clear hb2 HG
    go_wp2_with fail
    go_ret
    exact ⟨rfl, HB2.out⟩
  have HB2 := Lib.hid (Sp.bstep HB1.out hb2)
  have HOK := Lib.hid hok
  have hl80 : l.length ≤ 80 := hok.1
  have HN := Lib.hid (new_calls (Hp.nil HB2.out) (Below.refl _ _) bud)
  unfold ptr at HN
  clear hok HG hb2 HB1
  go_wp2_with fail
  refine HN.out.mono ?_; rintro en w3 ⟨T, rfl, h3⟩
  have HN2 := Lib.hid (rnew_calls h3 (Below.refl _ _) bud)
  clear h3 HN
  go_wp2_with fail
  refine HN2.out.mono ?_; rintro en w4 ⟨B, rfl, h4⟩
  have H4 : Hid (Hp w w4 [storeT T (newM bud), refT B (newM bud)]) := Lib.hid (h4.pull 1 rfl)
  have HO0 := Lib.hid (Ok.new bud)
  clear h4 HN2
  go_wp2_with fail
  go_loopg [7, 9, 20] (l.length + 1) (fun g vn _ vi wr => ∃ (i : Nat) (m : Md) (now : Int), vi = .int .i64 i ∧ i ≤ l.length ∧ l.length - i ≤ g ∧ vn = .int .i64 now ∧ 0 ≤ now ∧ now ≤ (i : Int) * 65535 ∧ Hid (Ok m) ∧ Hid (m.K.length ≤ i ∧ m.ev = []) ∧ Hid (Hp w wr [storeT T m, refT B m]))
  case atStart => exact ⟨0, newM bud, 0, rfl, by omega, by omega, rfl, by omega, by omega, HO0, Lib.hid ⟨Nat.le_refl _, rfl⟩, H4⟩
  case round =>
    obtain ⟨i, m, now, rfl, hi, hg, rfl, hn0, hn1, HO, HL, HH⟩ := hrel
    clear H4 HO0
    by_cases hil : i < l.length
    case neg =>
      have hic : ¬ ((i : Int) < (l.length : Int)) := by omega
      have hk81 := HL.out.1
      obtain ⟨E, cE, hky⟩ := store_keys HH.out
      have HKy := Lib.hid (hky wr (Below.refl _ _))
      clear hky
      go_wp2_with fail
      refine HKy.out.mono ?_; rintro en5 w5 ⟨L, g5, kc, rfl, hko, h5⟩
      have HRk := Lib.hid (rkeys_calls (h5.pull 2 rfl) (Below.refl _ _) (by omega))
      have HKO := Lib.hid hko
      clear h5 HKy cE hko
      go_wp2_with fail
      refine HRk.out.mono ?_; rintro en6 w6 ⟨L2, g6, kc2, rfl, hko2, h6⟩
      obtain rfl : L = L2 := keysOf_eq HKO.out hko2
      have hll : L.length ≤ 1000000 := by rw [hko2.len]; omega
      have HSS := Lib.hid (sameS_calls w6 (some ⟨g5, 0, none⟩) (some ⟨g6, 0, none⟩) kc kc2 L hll (fun _ => ⟨g5, rfl, fun j hj => strs_cell (h6.pull 2 rfl) hj⟩) (fun _ => ⟨g6, rfl, fun j hj => by rw [h6.rowCell (j := j) (by omega), str_at L hj]⟩))
      have H6 := Lib.hid h6
      clear h6 HRk hko2
      go_wp2_with fail
      refine HSS.out.mono ?_; rintro en7 w7 ⟨rfl, hb7⟩
      have H7 := Lib.hid (H6.out.bel hb7)
      clear hb7 HSS H6
      go_wp2_with fail
      go_ret
      exact ⟨rfl, H7.out.below⟩
    case pos =>
      have hic : (i : Int) < (l.length : Int) := by omega
      obtain ⟨b, ob, rfl, hlt, hcs⟩ := HI.out (by omega)
      obtain ⟨hat, hIF, hIc, hIc2⟩ := hcs i hil
      have e : ∀ j, wr.cell? ⟨b, j, none⟩ = w.cell? ⟨b, j, none⟩ := fun j => HH.out.below.cell (p := ⟨b, j, none⟩) hlt
      obtain ⟨c0, c1, c2, c3, c4, c5, c6, c7, c8⟩ := InA.at_ hil hat
      rw [← e] at c0 c1 c2 c3 c4 c5 c6 c7 c8
      have hIt : ∀ W, Below w.heap.size w W → Hp w W [roT (itemR l[i].a l[i].c l[i].i)] := fun W hb => (item_came hIc hIc2 hIF).bel hb
      obtain ⟨⟨hqn1, hqn2⟩, -, hwt⟩ := HBd.out i hil
      obtain ⟨hq1, hq2, hq3, -⟩ := HOK.out.2 i hil
      have h5 : Hp w wr (roT (itemR l[i].a l[i].c l[i].i) :: [storeT T m, refT B m]) := ro_old HH.out _ fun R hR => ⟨hIc, hIc2, fun hp => by
        obtain ⟨b', o', e', hl', hc'⟩ := hIF hp
        refine ⟨b', o', e', hR b' hl', fun j hj => ?_⟩
        have e2 : ∀ x, wr.cell? ⟨b', x, none⟩ = w.cell? ⟨b', x, none⟩ := fun x => HH.out.below.cell (p := ⟨b', x, none⟩) hl'
        rw [e2, e2]
        exact hc' j hj⟩
      clear hat hcs e hlt hIF hIt
      generalize l[i] = q at *
      have H5 : Hid (Hp w (wr.alloc (.cells #[.int .i64 q.kd, .int .i64 q.n, .string q.k, .int .i64 q.i.k, .string q.i.t, .slice q.a q.i.l.length q.c, .bool q.kp, .int .i64 q.wh, .int .u16 q.wt] 34)) (cellsT wr.heap.size (cells9 q) :: roT (itemR q.a q.c q.i) :: [storeT T m, refT B m])) := Lib.hid (h5.cellsNew (cells9 q) 34)
      clear h5 HH
      go_upto_region 10 with fail
      generalize wr.alloc (.cells #[.int .i64 q.kd, .int .i64 q.n, .string q.k, .int .i64 q.i.k, .string q.i.t, .slice q.a q.i.l.length q.c, .bool q.kp, .int .i64 q.wh, .int .u16 q.wt] 34) = W1 at *
      generalize wr.heap.size = BX at *
      clear c0 c1 c2 c3 c4 c5 c6 c7 c8
      have b8 := H5.out.cell 8 rfl
      have hwn : IntKind.i64.wrap (now + (q.wt : Int)) = now + (q.wt : Int) := by rw [IntKind.wrap_i64]; omega
      have hww : IntKind.i64.wrap (q.wt : Int) = (q.wt : Int) := by rw [IntKind.wrap_i64]; omega
      go_upto_region 11 with fail
      obtain ⟨nw, hnw⟩ : ∃ nw : Int, now + (q.wt : Int) = nw := ⟨_, rfl⟩
      have hnw0 : 0 ≤ nw := by omega
      have hnw1 : nw ≤ ((i : Int) + 1) * 65535 := by omega
      have hnw2 : nw ≤ 4611686018427387904 := by omega
      rw [hnw]
      have hal := act_len HO.out q nw
      have HO1 := Lib.hid (HO.out.act q nw)
      have hk81 := HL.out.1
      have hev0 : m.ev.length = 0 := by rw [HL.out.2]; rfl
      have HP1 := Lib.hid (one_calls (q := q) (m := m) (m2 := m) ((H5.out.bel ((Below.refl _ _).drew)).push 3) (Below.refl _ _) hc HO.out HO.out (by omega) (by omega) hqn1 hqn2 nw hnw0 hnw2 (by omega) (by omega) (by omega) (by omega))
      have S1 : Hid (Box10 BX q W1.drew) := Lib.hid (box10 (H5.out.bel ((Below.refl _ _).drew)))
      clear H5 b8
      unfold Box10 at S1
      obtain ⟨m1, hm1⟩ : ∃ m1, actM q nw m = m1 := ⟨_, rfl⟩
      rw [hm1] at hal HO1 HP1
      have HM1 := Lib.hid hm1
      have hK1 : m1.K.length ≤ 100 := by omega
      have HKL : Hid (m1.K.length ≤ i + 1) := Lib.hid (by omega)
      clear hm1 hwn hww hnw
      refine wp_region_held_drew (S := (fun w' : World => w'.cell? ⟨BX, 0, none⟩ = some (.int .i64 q.kd) ∧ w'.cell? ⟨BX, 1, none⟩ = some (.int .i64 q.n) ∧ w'.cell? ⟨BX, 2, none⟩ = some (.string q.k) ∧ w'.cell? ⟨BX, 3, none⟩ = some (.int .i64 q.i.k) ∧ w'.cell? ⟨BX, 4, none⟩ = some (.string q.i.t) ∧ w'.cell? ⟨BX, 5, none⟩ = some (.slice q.a q.i.l.length q.c) ∧ w'.cell? ⟨BX, 6, none⟩ = some (.bool q.kp) ∧ w'.cell? ⟨BX, 7, none⟩ = some (.int .i64 q.wh) ∧ w'.cell? ⟨BX, 8, none⟩ = some (.int .u16 q.wt))) (by kernel_rfl) S1.out (fun hHeld => ?_)
      refine wpAnyH_take (i := 0) (oi := { dst := some 29, op := Go.Op.move (Go.Operand.tmp 5), type := 25, pos := "law.go:105", after := #[], guard := none }) (v := ?vz1) rfl (by kernel_rfl) (by kernel_rfl) (by kernel_rfl) (fun _ _ _ h => h) (Or.inl ⟨by rfl, ?yz1⟩) (by assumption) ?rz1
      case yz1 => (intro w hSw; (try dsimp only at hSw); go_simp; (try with_reducible rfl))
      try simp only [Act.put, List.setIfInBounds_toArray, List.set_cons_zero, List.set_cons_succ]
      refine wpAnyH_take (i := 1) (oi := { dst := some 30, op := Go.Op.move (Go.Operand.tmp 6), type := 27, pos := "law.go:105", after := #[], guard := none }) (v := ?vz2) rfl (by kernel_rfl) (by kernel_rfl) (by kernel_rfl) (fun _ _ _ h => h) (Or.inl ⟨by rfl, ?yz2⟩) (by assumption) ?rz2
      case yz2 => (intro w hSw; (try dsimp only at hSw); go_simp; (try with_reducible rfl))
      try simp only [Act.put, List.setIfInBounds_toArray, List.set_cons_zero, List.set_cons_succ]
      refine wpAnyH_take (i := 2) (oi := { dst := some 31, op := Go.Op.load 34 (Go.Operand.tmp 9), type := 34, pos := "law.go:105", after := #[], guard := none }) (v := ?vz3) rfl (by kernel_rfl) (by kernel_rfl) (by kernel_rfl) (fun _ _ _ h => h) (Or.inl ⟨by rfl, ?yz3⟩) (by assumption) ?rz3
      case yz3 => (intro w hSw; (try dsimp only at hSw); go_simp; (try with_reducible rfl))
      try simp only [Act.put, List.setIfInBounds_toArray, List.set_cons_zero, List.set_cons_succ]
      refine wpAnyH_take (i := 3) (oi := { dst := some 32, op := Go.Op.move (Go.Operand.tmp 7), type := 2, pos := "law.go:105", after := #[], guard := none }) (v := ?vz4) rfl (by kernel_rfl) (by kernel_rfl) (by kernel_rfl) (fun _ _ _ h => h) (Or.inl ⟨by rfl, ?yz4⟩) (by assumption) ?rz4
      case yz4 => (intro w hSw; (try dsimp only at hSw); go_simp; (try with_reducible rfl))
      try simp only [Act.put, List.setIfInBounds_toArray, List.set_cons_zero, List.set_cons_succ]
      refine wpAnyH_ready (rs := [4]) (by kernel_rfl) (by simp) ?_
      refine AllReadyH.cons (o := { dst := some 33, op := Go.Op.call { callee := Go.Callee.value (Go.Operand.func 10), args := #[Go.Operand.tmp 29, Go.Operand.tmp 30, Go.Operand.tmp 31, Go.Operand.tmp 32], argTypes := #[25, 27, 34, 2] }, type := 4, pos := "law.go:105", after := #[{ on := 0, ground := Go.Ground.data }, { on := 1, ground := Go.Ground.data }, { on := 2, ground := Go.Ground.data }, { on := 3, ground := Go.Ground.data }], guard := none }) rfl (fun K hK => ?_) AllReadyH.nil
      go_simp
      refine HP1.out.mono ?_; rintro en8 w8 ⟨b8, rfl, hbt, h8⟩
      obtain rfl := hbt rfl
      have H8 := Lib.hid h8
      obtain ⟨E, cE, hlen⟩ := store_len h8
      have HLen := Lib.hid (hlen w8 (Below.refl _ _))
      have S2 := Lib.hid (box10 (h8.pull 2 rfl))
      unfold Box10 at S2
      obtain ⟨cv, cc, nC, cB, hnC⟩ := ref_len (h8.pull 1 rfl)
      subst hnC
      clear h8 hlen HP1 S1
      (try go_wp2_with fail)
      refine hK.out _ _ S2.out (fun hHeld => ?_)
      clear hK
      try simp only [Act.put, List.setIfInBounds_toArray, List.set_cons_zero, List.set_cons_succ]
      refine wpAnyH_take (i := 5) (oi := { dst := some 34, op := Go.Op.unOp Go.UnOp.not 4 (Go.Operand.tmp 33), type := 4, pos := "law.go:105", after := #[{ on := 4, ground := Go.Ground.data }], guard := none }) (v := ?vz5) rfl (by kernel_rfl) (by kernel_rfl) (by kernel_rfl) (fun _ _ _ h => h) (Or.inl ⟨by rfl, ?yz5⟩) (by assumption) ?rz5
      case yz5 => (intro w hSw; (try dsimp only at hSw); go_simp; (try with_reducible rfl))
      try simp only [Act.put, List.setIfInBounds_toArray, List.set_cons_zero, List.set_cons_succ]
      refine wpAnyH_take (i := 6) (oi := { dst := some 35, op := Go.Op.move (Go.Operand.tmp 34), type := 4, pos := "law.go:105", after := #[{ on := 5, ground := Go.Ground.data }, { on := 4, ground := Go.Ground.chain }], guard := none }) (v := ?vz6) rfl (by kernel_rfl) (by kernel_rfl) (by kernel_rfl) (fun _ _ _ h => h) (Or.inl ⟨by rfl, ?yz6⟩) (by assumption) ?rz6
      case yz6 => (intro w hSw; (try dsimp only at hSw); go_simp; (try with_reducible rfl))
      try simp only [Act.put, List.setIfInBounds_toArray, List.set_cons_zero, List.set_cons_succ]
      refine wpAnyH_take (i := 7) (oi := { dst := some 36, op := Go.Op.move (Go.Operand.tmp 5), type := 25, pos := "law.go:105", after := #[{ on := 6, ground := Go.Ground.guard }], guard := some (6, false) }) (v := ?vz7) rfl (by kernel_rfl) (by kernel_rfl) (by kernel_rfl) (fun _ _ _ h => h) (Or.inl ⟨by rfl, ?yz7⟩) (by assumption) ?rz7
      case yz7 => (intro w hSw; (try dsimp only at hSw); go_simp; (try with_reducible rfl))
      try simp only [Act.put, List.setIfInBounds_toArray, List.set_cons_zero, List.set_cons_succ]
      refine wpAnyH_take (i := 8) (oi := { dst := some 37, op := Go.Op.nilCheck (Go.Operand.tmp 36), type := 0, pos := "law.go:105", after := #[{ on := 7, ground := Go.Ground.data }, { on := 6, ground := Go.Ground.guard }], guard := some (6, false) }) (v := ?vz8) rfl (by kernel_rfl) (by kernel_rfl) (by kernel_rfl) (fun _ _ _ h => h) (Or.inl ⟨by rfl, ?yz8⟩) (by assumption) ?rz8
      case yz8 => (intro w hSw; (try dsimp only at hSw); go_simp; (try with_reducible rfl))
      try simp only [Act.put, List.setIfInBounds_toArray, List.set_cons_zero, List.set_cons_succ]
      refine wpAnyH_take (i := 9) (oi := { dst := some 38, op := Go.Op.fieldAddr 43 (Go.Operand.tmp 37) 0, type := 0, pos := "law.go:105", after := #[{ on := 8, ground := Go.Ground.data }, { on := 6, ground := Go.Ground.guard }], guard := some (6, false) }) (v := ?vz9) rfl (by kernel_rfl) (by kernel_rfl) (by kernel_rfl) (fun _ _ _ h => h) (Or.inl ⟨by rfl, ?yz9⟩) (by assumption) ?rz9
      case yz9 => (intro w hSw; (try dsimp only at hSw); go_simp; (try with_reducible rfl))
      try simp only [Act.put, List.setIfInBounds_toArray, List.set_cons_zero, List.set_cons_succ]
      refine wpAnyH_take (i := 12) (oi := { dst := some 41, op := Go.Op.move (Go.Operand.tmp 6), type := 27, pos := "law.go:105", after := #[{ on := 6, ground := Go.Ground.guard }], guard := some (6, false) }) (v := ?vz10) rfl (by kernel_rfl) (by kernel_rfl) (by kernel_rfl) (fun _ _ _ h => h) (Or.inl ⟨by rfl, ?yz10⟩) (by assumption) ?rz10
      case yz10 => (intro w hSw; (try dsimp only at hSw); go_simp; (try with_reducible rfl))
      try simp only [Act.put, List.setIfInBounds_toArray, List.set_cons_zero, List.set_cons_succ]
      refine wpAnyH_take (i := 13) (oi := { dst := some 42, op := Go.Op.nilCheck (Go.Operand.tmp 41), type := 0, pos := "law.go:105", after := #[{ on := 12, ground := Go.Ground.data }, { on := 6, ground := Go.Ground.guard }], guard := some (6, false) }) (v := ?vz11) rfl (by kernel_rfl) (by kernel_rfl) (by kernel_rfl) (fun _ _ _ h => h) (Or.inl ⟨by rfl, ?yz11⟩) (by assumption) ?rz11
      case yz11 => (intro w hSw; (try dsimp only at hSw); go_simp; (try with_reducible rfl))
      try simp only [Act.put, List.setIfInBounds_toArray, List.set_cons_zero, List.set_cons_succ]
      refine wpAnyH_take (i := 14) (oi := { dst := some 43, op := Go.Op.fieldAddr 46 (Go.Operand.tmp 42) 0, type := 0, pos := "law.go:105", after := #[{ on := 13, ground := Go.Ground.data }, { on := 6, ground := Go.Ground.guard }], guard := some (6, false) }) (v := ?vz12) rfl (by kernel_rfl) (by kernel_rfl) (by kernel_rfl) (fun _ _ _ h => h) (Or.inl ⟨by rfl, ?yz12⟩) (by assumption) ?rz12
      case yz12 => (intro w hSw; (try dsimp only at hSw); go_simp; (try with_reducible rfl))
      try simp only [Act.put, List.setIfInBounds_toArray, List.set_cons_zero, List.set_cons_succ]
      refine wpAnyH_ready (rs := [10, 15]) (by kernel_rfl) (by simp) ?_
      refine AllReadyH.cons (o := { dst := some 39, op := Go.Op.load 37 (Go.Operand.tmp 38), type := 37, pos := "law.go:105", after := #[{ on := 9, ground := Go.Ground.data }, { on := 6, ground := Go.Ground.guard }], guard := some (6, false) }) rfl (fun K hK => ?_) (AllReadyH.cons (o := { dst := some 44, op := Go.Op.load 44 (Go.Operand.tmp 43), type := 44, pos := "law.go:105", after := #[{ on := 14, ground := Go.Ground.data }, { on := 6, ground := Go.Ground.guard }], guard := some (6, false) }) rfl (fun K hK => ?_) AllReadyH.nil)
      · skip
        go_simp
        (try go_wp2_with fail)
        refine hK.out _ _ S2.out (fun hHeld => ?_)
        clear hK
        try simp only [Act.put, List.setIfInBounds_toArray, List.set_cons_zero, List.set_cons_succ]
        refine wpAnyH_ready (rs := [11, 15]) (by kernel_rfl) (by simp) ?_
        refine AllReadyH.cons (o := { dst := some 40, op := Go.Op.call { callee := Go.Callee.value (Go.Operand.func 11), args := #[Go.Operand.tmp 39], argTypes := #[37] }, type := 3, pos := "law.go:105", after := #[{ on := 10, ground := Go.Ground.data }, { on := 6, ground := Go.Ground.chain }, { on := 6, ground := Go.Ground.guard }], guard := some (6, false) }) rfl (fun K hK => ?_) (AllReadyH.cons (o := { dst := some 44, op := Go.Op.load 44 (Go.Operand.tmp 43), type := 44, pos := "law.go:105", after := #[{ on := 14, ground := Go.Ground.data }, { on := 6, ground := Go.Ground.guard }], guard := some (6, false) }) rfl (fun K hK => ?_) AllReadyH.nil)
        · skip
          go_simp
          refine HLen.out.mono ?_; rintro en9 w9 ⟨rfl, n9, rfl⟩
          have H9 := Lib.hid (H8.out.bel (Ta.drewN_below w8 n9))
          have S3 := Lib.hid (box10 (H9.out.pull 2 rfl))
          unfold Box10 at S3
          have HBy := Lib.hid (bytes_calls H9.out (Below.refl _ _))
          unfold ptr at HBy
          have HRB := Lib.hid (rbytes_calls (H9.out.pull 1 rfl) (Below.refl _ _) (by omega))
          have cB : (w8.drewN n9).cell? ⟨B, 0, none⟩ = some (.slice cv m1.K.length cc) := cB
          (try go_wp2_with fail)
          refine hK.out _ _ S3.out (fun hHeld => ?_)
          clear hK
          try simp only [Act.put, List.setIfInBounds_toArray, List.set_cons_zero, List.set_cons_succ]
          refine wpAnyH_ready (rs := [15]) (by kernel_rfl) (by simp) ?_
          refine AllReadyH.cons (o := { dst := some 44, op := Go.Op.load 44 (Go.Operand.tmp 43), type := 44, pos := "law.go:105", after := #[{ on := 14, ground := Go.Ground.data }, { on := 6, ground := Go.Ground.guard }], guard := some (6, false) }) rfl (fun K hK => ?_) AllReadyH.nil
          go_simp
          (try go_wp2_with fail)
          refine hK.out _ _ S3.out (fun hHeld => ?_)
          clear hK
          try simp only [Act.put, List.setIfInBounds_toArray, List.set_cons_zero, List.set_cons_succ]
          refine wpAnyH_take (i := 16) (oi := { dst := some 45, op := Go.Op.call { callee := Go.Callee.builtin Go.Builtin.len, args := #[Go.Operand.tmp 44], argTypes := #[44] }, type := 3, pos := "law.go:105", after := #[{ on := 15, ground := Go.Ground.data }, { on := 6, ground := Go.Ground.guard }], guard := some (6, false) }) (v := ?vz13) rfl (by kernel_rfl) (by kernel_rfl) (by kernel_rfl) (fun _ _ _ h => h) (Or.inl ⟨by rfl, ?yz13⟩) (by assumption) ?rz13
          case yz13 => (intro w hSw; (try dsimp only at hSw); go_simp; (try with_reducible rfl))
          try simp only [Act.put, List.setIfInBounds_toArray, List.set_cons_zero, List.set_cons_succ]
          refine wpAnyH_take (i := 17) (oi := { dst := some 46, op := Go.Op.binOp Go.BinOp.neq 3 (Go.Operand.tmp 40) (Go.Operand.tmp 45) 3, type := 4, pos := "law.go:105", after := #[{ on := 11, ground := Go.Ground.data }, { on := 16, ground := Go.Ground.data }, { on := 6, ground := Go.Ground.guard }], guard := some (6, false) }) (v := ?vz14) rfl (by kernel_rfl) (by kernel_rfl) (by kernel_rfl) (fun _ _ _ h => h) (Or.inl ⟨by rfl, ?yz14⟩) (by assumption) ?rz14
          case yz14 => (intro w hSw; (try dsimp only at hSw); go_simp; (try with_reducible rfl))
          try simp only [Act.put, List.setIfInBounds_toArray, List.set_cons_zero, List.set_cons_succ]
          refine wpAnyH_take (i := 18) (oi := { dst := some 47, op := Go.Op.pick (Go.Operand.tmp 35) (Go.Operand.const (Go.Value.bool true)) (Go.Operand.tmp 46), type := 4, pos := "law.go:105", after := #[{ on := 6, ground := Go.Ground.data }, { on := 17, ground := Go.Ground.data }], guard := none }) (v := ?vz15) rfl (by kernel_rfl) (by kernel_rfl) (by kernel_rfl) (fun _ _ _ h => h) (Or.inl ⟨by rfl, ?yz15⟩) (by assumption) ?rz15
          case yz15 => (intro w hSw; (try dsimp only at hSw); go_simp; (try with_reducible rfl))
          try simp only [Act.put, List.setIfInBounds_toArray, List.set_cons_zero, List.set_cons_succ]
          refine wpAnyH_take (i := 19) (oi := { dst := some 48, op := Go.Op.move (Go.Operand.tmp 47), type := 4, pos := "law.go:105", after := #[{ on := 18, ground := Go.Ground.data }, { on := 11, ground := Go.Ground.chain }], guard := none }) (v := ?vz16) rfl (by kernel_rfl) (by kernel_rfl) (by kernel_rfl) (fun _ _ _ h => h) (Or.inl ⟨by rfl, ?yz16⟩) (by assumption) ?rz16
          case yz16 => (intro w hSw; (try dsimp only at hSw); go_simp; (try with_reducible rfl))
          try simp only [Act.put, List.setIfInBounds_toArray, List.set_cons_zero, List.set_cons_succ]
          refine wpAnyH_take (i := 20) (oi := { dst := some 49, op := Go.Op.move (Go.Operand.tmp 5), type := 25, pos := "law.go:105", after := #[{ on := 19, ground := Go.Ground.guard }], guard := some (19, false) }) (v := ?vz17) rfl (by kernel_rfl) (by kernel_rfl) (by kernel_rfl) (fun _ _ _ h => h) (Or.inl ⟨by rfl, ?yz17⟩) (by assumption) ?rz17
          case yz17 => (intro w hSw; (try dsimp only at hSw); go_simp; (try with_reducible rfl))
          try simp only [Act.put, List.setIfInBounds_toArray, List.set_cons_zero, List.set_cons_succ]
          refine wpAnyH_take (i := 22) (oi := { dst := some 51, op := Go.Op.move (Go.Operand.tmp 6), type := 27, pos := "law.go:105", after := #[{ on := 19, ground := Go.Ground.guard }], guard := some (19, false) }) (v := ?vz18) rfl (by kernel_rfl) (by kernel_rfl) (by kernel_rfl) (fun _ _ _ h => h) (Or.inl ⟨by rfl, ?yz18⟩) (by assumption) ?rz18
          case yz18 => (intro w hSw; (try dsimp only at hSw); go_simp; (try with_reducible rfl))
          try simp only [Act.put, List.setIfInBounds_toArray, List.set_cons_zero, List.set_cons_succ]
          refine wpAnyH_ready (rs := [21]) (by kernel_rfl) (by simp) ?_
          refine AllReadyH.cons (o := { dst := some 50, op := Go.Op.call { callee := Go.Callee.value (Go.Operand.func 12), args := #[Go.Operand.tmp 49], argTypes := #[25] }, type := 2, pos := "law.go:105", after := #[{ on := 20, ground := Go.Ground.data }, { on := 19, ground := Go.Ground.chain }, { on := 19, ground := Go.Ground.guard }], guard := some (19, false) }) rfl (fun K hK => ?_) AllReadyH.nil
          go_simp
          refine HBy.out.mono ?_; rintro en10 w10 ⟨rfl, rfl⟩
          (try go_wp2_with fail)
          refine hK.out _ _ S3.out (fun hHeld => ?_)
          clear hK
          try simp only [Act.put, List.setIfInBounds_toArray, List.set_cons_zero, List.set_cons_succ]
          refine wpAnyH_ready (rs := [23]) (by kernel_rfl) (by simp) ?_
          refine AllReadyH.cons (o := { dst := some 52, op := Go.Op.call { callee := Go.Callee.value (Go.Operand.func 13), args := #[Go.Operand.tmp 51], argTypes := #[27] }, type := 2, pos := "law.go:105", after := #[{ on := 22, ground := Go.Ground.data }, { on := 21, ground := Go.Ground.chain }, { on := 19, ground := Go.Ground.guard }], guard := some (19, false) }) rfl (fun K hK => ?_) AllReadyH.nil
          go_simp
          refine HRB.out.mono ?_; rintro en11 w11 ⟨rfl, hb11⟩
          have H11 := Lib.hid (H9.out.bel hb11)
          have S5 := Lib.hid (box10 (H11.out.pull 2 rfl))
          unfold Box10 at S5
          clear hb11 H9 HRB HBy
          (try go_wp2_with fail)
          refine hK.out _ _ S5.out (fun hHeld => ?_)
          clear hK
          try simp only [Act.put, List.setIfInBounds_toArray, List.set_cons_zero, List.set_cons_succ]
          refine wpAnyH_take (i := 24) (oi := { dst := some 53, op := Go.Op.binOp Go.BinOp.neq 2 (Go.Operand.tmp 50) (Go.Operand.tmp 52) 2, type := 4, pos := "law.go:105", after := #[{ on := 21, ground := Go.Ground.data }, { on := 23, ground := Go.Ground.data }, { on := 19, ground := Go.Ground.guard }], guard := some (19, false) }) (v := ?vz19) rfl (by kernel_rfl) (by kernel_rfl) (by kernel_rfl) (fun _ _ _ h => h) (Or.inl ⟨by rfl, ?yz19⟩) (by assumption) ?rz19
          case yz19 => (intro w hSw; (try dsimp only at hSw); go_simp; (try with_reducible rfl))
          try simp only [Act.put, List.setIfInBounds_toArray, List.set_cons_zero, List.set_cons_succ]
          refine wpAnyH_take (i := 25) (oi := { dst := some 54, op := Go.Op.pick (Go.Operand.tmp 48) (Go.Operand.const (Go.Value.bool true)) (Go.Operand.tmp 53), type := 4, pos := "law.go:105", after := #[{ on := 19, ground := Go.Ground.data }, { on := 24, ground := Go.Ground.data }], guard := none }) (v := ?vz20) rfl (by kernel_rfl) (by kernel_rfl) (by kernel_rfl) (fun _ _ _ h => h) (Or.inl ⟨by rfl, ?yz20⟩) (by assumption) ?rz20
          case yz20 => (intro w hSw; (try dsimp only at hSw); go_simp; (try with_reducible rfl))
          try simp only [Act.put, List.setIfInBounds_toArray, List.set_cons_zero, List.set_cons_succ]
          refine wpAnyH_done (by kernel_rfl) ?_ _
          clear cE cB H8 S2 S3 S5
          have HEv := Lib.hid (events_calls H11.out (Below.refl _ _) HO1.out)
          unfold ptr at HEv
          clear H11
          go_wp2_with fail
          refine HEv.out.mono ?_; rintro en12 w12 ⟨v12, rfl, h12⟩
          have HTl := Lib.hid (rtell_calls (h12.pull 2 rfl) (Below.refl _ _))
          obtain ⟨ea, ec, rfl, -⟩ := ate h12
          clear h12 HEv
          go_wp2_with fail
          refine HTl.out.mono ?_; rintro en13 w13 ⟨v13, rfl, h13⟩
          obtain ⟨ea2, ec2, rfl, ha2⟩ := ate h13
          obtain ⟨ea3, ec3, e3, ha3⟩ := ate (h13.pull 2 rfl)
          injection e3 with e31 e32 e33
          subst e31 e33
          have HSm := Lib.hid (sameE_calls w13 ea ea2 ec ec2 m1.ev (by omega) ha3 ha2)
          have H13 : Hid (Hp w w13 [storeT T (toldM m1), refT B (toldM m1)]) := Lib.hid (((h13.dropAt 0 rfl).dropAt 1 rfl).dropAt 2 rfl |>.pull 1 rfl)
          clear h13 HTl ha2 ha3 e32
          go_wp2_with fail
          refine HSm.out.mono ?_; rintro en14 w14 ⟨rfl, hb14⟩
          have H14 := Lib.hid (H13.out.bel hb14)
          clear hb14 HSm H13
          go_wp2_with fail
          go_roundg (gk - 1)
          case measure => omega
          case rel => exact ⟨i + 1, toldM m1, nw, by go_num, by omega, by omega, rfl, hnw0, hnw1, Lib.hid HO1.out.told, Lib.hid ⟨HKL.out, rfl⟩, H14⟩
        · skip
          go_simp
          (try go_wp2_with fail)
          refine hK.out _ _ S2.out (fun hHeld => ?_)
          clear hK
          try simp only [Act.put, List.setIfInBounds_toArray, List.set_cons_zero, List.set_cons_succ]
          refine wpAnyH_take (i := 16) (oi := { dst := some 45, op := Go.Op.call { callee := Go.Callee.builtin Go.Builtin.len, args := #[Go.Operand.tmp 44], argTypes := #[44] }, type := 3, pos := "law.go:105", after := #[{ on := 15, ground := Go.Ground.data }, { on := 6, ground := Go.Ground.guard }], guard := some (6, false) }) (v := ?vz21) rfl (by kernel_rfl) (by kernel_rfl) (by kernel_rfl) (fun _ _ _ h => h) (Or.inl ⟨by rfl, ?yz21⟩) (by assumption) ?rz21
          case yz21 => (intro w hSw; (try dsimp only at hSw); go_simp; (try with_reducible rfl))
          try simp only [Act.put, List.setIfInBounds_toArray, List.set_cons_zero, List.set_cons_succ]
          refine wpAnyH_ready (rs := [11]) (by kernel_rfl) (by simp) ?_
          refine AllReadyH.cons (o := { dst := some 40, op := Go.Op.call { callee := Go.Callee.value (Go.Operand.func 11), args := #[Go.Operand.tmp 39], argTypes := #[37] }, type := 3, pos := "law.go:105", after := #[{ on := 10, ground := Go.Ground.data }, { on := 6, ground := Go.Ground.chain }, { on := 6, ground := Go.Ground.guard }], guard := some (6, false) }) rfl (fun K hK => ?_) AllReadyH.nil
          go_simp
          refine HLen.out.mono ?_; rintro en9 w9 ⟨rfl, n9, rfl⟩
          have H9 := Lib.hid (H8.out.bel (Ta.drewN_below w8 n9))
          have S3 := Lib.hid (box10 (H9.out.pull 2 rfl))
          unfold Box10 at S3
          have HBy := Lib.hid (bytes_calls H9.out (Below.refl _ _))
          unfold ptr at HBy
          have HRB := Lib.hid (rbytes_calls (H9.out.pull 1 rfl) (Below.refl _ _) (by omega))
          have cB : (w8.drewN n9).cell? ⟨B, 0, none⟩ = some (.slice cv m1.K.length cc) := cB
          (try go_wp2_with fail)
          refine hK.out _ _ S3.out (fun hHeld => ?_)
          clear hK
          try simp only [Act.put, List.setIfInBounds_toArray, List.set_cons_zero, List.set_cons_succ]
          refine wpAnyH_take (i := 17) (oi := { dst := some 46, op := Go.Op.binOp Go.BinOp.neq 3 (Go.Operand.tmp 40) (Go.Operand.tmp 45) 3, type := 4, pos := "law.go:105", after := #[{ on := 11, ground := Go.Ground.data }, { on := 16, ground := Go.Ground.data }, { on := 6, ground := Go.Ground.guard }], guard := some (6, false) }) (v := ?vz22) rfl (by kernel_rfl) (by kernel_rfl) (by kernel_rfl) (fun _ _ _ h => h) (Or.inl ⟨by rfl, ?yz22⟩) (by assumption) ?rz22
          case yz22 => (intro w hSw; (try dsimp only at hSw); go_simp; (try with_reducible rfl))
          try simp only [Act.put, List.setIfInBounds_toArray, List.set_cons_zero, List.set_cons_succ]
          refine wpAnyH_take (i := 18) (oi := { dst := some 47, op := Go.Op.pick (Go.Operand.tmp 35) (Go.Operand.const (Go.Value.bool true)) (Go.Operand.tmp 46), type := 4, pos := "law.go:105", after := #[{ on := 6, ground := Go.Ground.data }, { on := 17, ground := Go.Ground.data }], guard := none }) (v := ?vz23) rfl (by kernel_rfl) (by kernel_rfl) (by kernel_rfl) (fun _ _ _ h => h) (Or.inl ⟨by rfl, ?yz23⟩) (by assumption) ?rz23
          case yz23 => (intro w hSw; (try dsimp only at hSw); go_simp; (try with_reducible rfl))
          try simp only [Act.put, List.setIfInBounds_toArray, List.set_cons_zero, List.set_cons_succ]
          refine wpAnyH_take (i := 19) (oi := { dst := some 48, op := Go.Op.move (Go.Operand.tmp 47), type := 4, pos := "law.go:105", after := #[{ on := 18, ground := Go.Ground.data }, { on := 11, ground := Go.Ground.chain }], guard := none }) (v := ?vz24) rfl (by kernel_rfl) (by kernel_rfl) (by kernel_rfl) (fun _ _ _ h => h) (Or.inl ⟨by rfl, ?yz24⟩) (by assumption) ?rz24
          case yz24 => (intro w hSw; (try dsimp only at hSw); go_simp; (try with_reducible rfl))
          try simp only [Act.put, List.setIfInBounds_toArray, List.set_cons_zero, List.set_cons_succ]
          refine wpAnyH_take (i := 20) (oi := { dst := some 49, op := Go.Op.move (Go.Operand.tmp 5), type := 25, pos := "law.go:105", after := #[{ on := 19, ground := Go.Ground.guard }], guard := some (19, false) }) (v := ?vz25) rfl (by kernel_rfl) (by kernel_rfl) (by kernel_rfl) (fun _ _ _ h => h) (Or.inl ⟨by rfl, ?yz25⟩) (by assumption) ?rz25
          case yz25 => (intro w hSw; (try dsimp only at hSw); go_simp; (try with_reducible rfl))
          try simp only [Act.put, List.setIfInBounds_toArray, List.set_cons_zero, List.set_cons_succ]
          refine wpAnyH_take (i := 22) (oi := { dst := some 51, op := Go.Op.move (Go.Operand.tmp 6), type := 27, pos := "law.go:105", after := #[{ on := 19, ground := Go.Ground.guard }], guard := some (19, false) }) (v := ?vz26) rfl (by kernel_rfl) (by kernel_rfl) (by kernel_rfl) (fun _ _ _ h => h) (Or.inl ⟨by rfl, ?yz26⟩) (by assumption) ?rz26
          case yz26 => (intro w hSw; (try dsimp only at hSw); go_simp; (try with_reducible rfl))
          try simp only [Act.put, List.setIfInBounds_toArray, List.set_cons_zero, List.set_cons_succ]
          refine wpAnyH_ready (rs := [21]) (by kernel_rfl) (by simp) ?_
          refine AllReadyH.cons (o := { dst := some 50, op := Go.Op.call { callee := Go.Callee.value (Go.Operand.func 12), args := #[Go.Operand.tmp 49], argTypes := #[25] }, type := 2, pos := "law.go:105", after := #[{ on := 20, ground := Go.Ground.data }, { on := 19, ground := Go.Ground.chain }, { on := 19, ground := Go.Ground.guard }], guard := some (19, false) }) rfl (fun K hK => ?_) AllReadyH.nil
          go_simp
          refine HBy.out.mono ?_; rintro en10 w10 ⟨rfl, rfl⟩
          (try go_wp2_with fail)
          refine hK.out _ _ S3.out (fun hHeld => ?_)
          clear hK
          try simp only [Act.put, List.setIfInBounds_toArray, List.set_cons_zero, List.set_cons_succ]
          refine wpAnyH_ready (rs := [23]) (by kernel_rfl) (by simp) ?_
          refine AllReadyH.cons (o := { dst := some 52, op := Go.Op.call { callee := Go.Callee.value (Go.Operand.func 13), args := #[Go.Operand.tmp 51], argTypes := #[27] }, type := 2, pos := "law.go:105", after := #[{ on := 22, ground := Go.Ground.data }, { on := 21, ground := Go.Ground.chain }, { on := 19, ground := Go.Ground.guard }], guard := some (19, false) }) rfl (fun K hK => ?_) AllReadyH.nil
          go_simp
          refine HRB.out.mono ?_; rintro en11 w11 ⟨rfl, hb11⟩
          have H11 := Lib.hid (H9.out.bel hb11)
          have S5 := Lib.hid (box10 (H11.out.pull 2 rfl))
          unfold Box10 at S5
          clear hb11 H9 HRB HBy
          (try go_wp2_with fail)
          refine hK.out _ _ S5.out (fun hHeld => ?_)
          clear hK
          try simp only [Act.put, List.setIfInBounds_toArray, List.set_cons_zero, List.set_cons_succ]
          refine wpAnyH_take (i := 24) (oi := { dst := some 53, op := Go.Op.binOp Go.BinOp.neq 2 (Go.Operand.tmp 50) (Go.Operand.tmp 52) 2, type := 4, pos := "law.go:105", after := #[{ on := 21, ground := Go.Ground.data }, { on := 23, ground := Go.Ground.data }, { on := 19, ground := Go.Ground.guard }], guard := some (19, false) }) (v := ?vz27) rfl (by kernel_rfl) (by kernel_rfl) (by kernel_rfl) (fun _ _ _ h => h) (Or.inl ⟨by rfl, ?yz27⟩) (by assumption) ?rz27
          case yz27 => (intro w hSw; (try dsimp only at hSw); go_simp; (try with_reducible rfl))
          try simp only [Act.put, List.setIfInBounds_toArray, List.set_cons_zero, List.set_cons_succ]
          refine wpAnyH_take (i := 25) (oi := { dst := some 54, op := Go.Op.pick (Go.Operand.tmp 48) (Go.Operand.const (Go.Value.bool true)) (Go.Operand.tmp 53), type := 4, pos := "law.go:105", after := #[{ on := 19, ground := Go.Ground.data }, { on := 24, ground := Go.Ground.data }], guard := none }) (v := ?vz28) rfl (by kernel_rfl) (by kernel_rfl) (by kernel_rfl) (fun _ _ _ h => h) (Or.inl ⟨by rfl, ?yz28⟩) (by assumption) ?rz28
          case yz28 => (intro w hSw; (try dsimp only at hSw); go_simp; (try with_reducible rfl))
          try simp only [Act.put, List.setIfInBounds_toArray, List.set_cons_zero, List.set_cons_succ]
          refine wpAnyH_done (by kernel_rfl) ?_ _
          clear cE cB H8 S2 S3 S5
          have HEv := Lib.hid (events_calls H11.out (Below.refl _ _) HO1.out)
          unfold ptr at HEv
          clear H11
          go_wp2_with fail
          refine HEv.out.mono ?_; rintro en12 w12 ⟨v12, rfl, h12⟩
          have HTl := Lib.hid (rtell_calls (h12.pull 2 rfl) (Below.refl _ _))
          obtain ⟨ea, ec, rfl, -⟩ := ate h12
          clear h12 HEv
          go_wp2_with fail
          refine HTl.out.mono ?_; rintro en13 w13 ⟨v13, rfl, h13⟩
          obtain ⟨ea2, ec2, rfl, ha2⟩ := ate h13
          obtain ⟨ea3, ec3, e3, ha3⟩ := ate (h13.pull 2 rfl)
          injection e3 with e31 e32 e33
          subst e31 e33
          have HSm := Lib.hid (sameE_calls w13 ea ea2 ec ec2 m1.ev (by omega) ha3 ha2)
          have H13 : Hid (Hp w w13 [storeT T (toldM m1), refT B (toldM m1)]) := Lib.hid (((h13.dropAt 0 rfl).dropAt 1 rfl).dropAt 2 rfl |>.pull 1 rfl)
          clear h13 HTl ha2 ha3 e32
          go_wp2_with fail
          refine HSm.out.mono ?_; rintro en14 w14 ⟨rfl, hb14⟩
          have H14 := Lib.hid (H13.out.bel hb14)
          clear hb14 HSm H13
          go_wp2_with fail
          go_roundg (gk - 1)
          case measure => omega
          case rel => exact ⟨i + 1, toldM m1, nw, by go_num, by omega, by omega, rfl, hnw0, hnw1, Lib.hid HO1.out.told, Lib.hid ⟨HKL.out, rfl⟩, H14⟩
      · skip
        go_simp
        (try go_wp2_with fail)
        refine hK.out _ _ S2.out (fun hHeld => ?_)
        clear hK
        try simp only [Act.put, List.setIfInBounds_toArray, List.set_cons_zero, List.set_cons_succ]
        refine wpAnyH_take (i := 16) (oi := { dst := some 45, op := Go.Op.call { callee := Go.Callee.builtin Go.Builtin.len, args := #[Go.Operand.tmp 44], argTypes := #[44] }, type := 3, pos := "law.go:105", after := #[{ on := 15, ground := Go.Ground.data }, { on := 6, ground := Go.Ground.guard }], guard := some (6, false) }) (v := ?vz29) rfl (by kernel_rfl) (by kernel_rfl) (by kernel_rfl) (fun _ _ _ h => h) (Or.inl ⟨by rfl, ?yz29⟩) (by assumption) ?rz29
        case yz29 => (intro w hSw; (try dsimp only at hSw); go_simp; (try with_reducible rfl))
        try simp only [Act.put, List.setIfInBounds_toArray, List.set_cons_zero, List.set_cons_succ]
        refine wpAnyH_ready (rs := [10]) (by kernel_rfl) (by simp) ?_
        refine AllReadyH.cons (o := { dst := some 39, op := Go.Op.load 37 (Go.Operand.tmp 38), type := 37, pos := "law.go:105", after := #[{ on := 9, ground := Go.Ground.data }, { on := 6, ground := Go.Ground.guard }], guard := some (6, false) }) rfl (fun K hK => ?_) AllReadyH.nil
        go_simp
        (try go_wp2_with fail)
        refine hK.out _ _ S2.out (fun hHeld => ?_)
        clear hK
        try simp only [Act.put, List.setIfInBounds_toArray, List.set_cons_zero, List.set_cons_succ]
        refine wpAnyH_ready (rs := [11]) (by kernel_rfl) (by simp) ?_
        refine AllReadyH.cons (o := { dst := some 40, op := Go.Op.call { callee := Go.Callee.value (Go.Operand.func 11), args := #[Go.Operand.tmp 39], argTypes := #[37] }, type := 3, pos := "law.go:105", after := #[{ on := 10, ground := Go.Ground.data }, { on := 6, ground := Go.Ground.chain }, { on := 6, ground := Go.Ground.guard }], guard := some (6, false) }) rfl (fun K hK => ?_) AllReadyH.nil
        go_simp
        refine HLen.out.mono ?_; rintro en9 w9 ⟨rfl, n9, rfl⟩
        have H9 := Lib.hid (H8.out.bel (Ta.drewN_below w8 n9))
        have S3 := Lib.hid (box10 (H9.out.pull 2 rfl))
        unfold Box10 at S3
        have HBy := Lib.hid (bytes_calls H9.out (Below.refl _ _))
        unfold ptr at HBy
        have HRB := Lib.hid (rbytes_calls (H9.out.pull 1 rfl) (Below.refl _ _) (by omega))
        have cB : (w8.drewN n9).cell? ⟨B, 0, none⟩ = some (.slice cv m1.K.length cc) := cB
        (try go_wp2_with fail)
        refine hK.out _ _ S3.out (fun hHeld => ?_)
        clear hK
        try simp only [Act.put, List.setIfInBounds_toArray, List.set_cons_zero, List.set_cons_succ]
        refine wpAnyH_take (i := 17) (oi := { dst := some 46, op := Go.Op.binOp Go.BinOp.neq 3 (Go.Operand.tmp 40) (Go.Operand.tmp 45) 3, type := 4, pos := "law.go:105", after := #[{ on := 11, ground := Go.Ground.data }, { on := 16, ground := Go.Ground.data }, { on := 6, ground := Go.Ground.guard }], guard := some (6, false) }) (v := ?vz30) rfl (by kernel_rfl) (by kernel_rfl) (by kernel_rfl) (fun _ _ _ h => h) (Or.inl ⟨by rfl, ?yz30⟩) (by assumption) ?rz30
        case yz30 => (intro w hSw; (try dsimp only at hSw); go_simp; (try with_reducible rfl))
        try simp only [Act.put, List.setIfInBounds_toArray, List.set_cons_zero, List.set_cons_succ]
        refine wpAnyH_take (i := 18) (oi := { dst := some 47, op := Go.Op.pick (Go.Operand.tmp 35) (Go.Operand.const (Go.Value.bool true)) (Go.Operand.tmp 46), type := 4, pos := "law.go:105", after := #[{ on := 6, ground := Go.Ground.data }, { on := 17, ground := Go.Ground.data }], guard := none }) (v := ?vz31) rfl (by kernel_rfl) (by kernel_rfl) (by kernel_rfl) (fun _ _ _ h => h) (Or.inl ⟨by rfl, ?yz31⟩) (by assumption) ?rz31
        case yz31 => (intro w hSw; (try dsimp only at hSw); go_simp; (try with_reducible rfl))
        try simp only [Act.put, List.setIfInBounds_toArray, List.set_cons_zero, List.set_cons_succ]
        refine wpAnyH_take (i := 19) (oi := { dst := some 48, op := Go.Op.move (Go.Operand.tmp 47), type := 4, pos := "law.go:105", after := #[{ on := 18, ground := Go.Ground.data }, { on := 11, ground := Go.Ground.chain }], guard := none }) (v := ?vz32) rfl (by kernel_rfl) (by kernel_rfl) (by kernel_rfl) (fun _ _ _ h => h) (Or.inl ⟨by rfl, ?yz32⟩) (by assumption) ?rz32
        case yz32 => (intro w hSw; (try dsimp only at hSw); go_simp; (try with_reducible rfl))
        try simp only [Act.put, List.setIfInBounds_toArray, List.set_cons_zero, List.set_cons_succ]
        refine wpAnyH_take (i := 20) (oi := { dst := some 49, op := Go.Op.move (Go.Operand.tmp 5), type := 25, pos := "law.go:105", after := #[{ on := 19, ground := Go.Ground.guard }], guard := some (19, false) }) (v := ?vz33) rfl (by kernel_rfl) (by kernel_rfl) (by kernel_rfl) (fun _ _ _ h => h) (Or.inl ⟨by rfl, ?yz33⟩) (by assumption) ?rz33
        case yz33 => (intro w hSw; (try dsimp only at hSw); go_simp; (try with_reducible rfl))
        try simp only [Act.put, List.setIfInBounds_toArray, List.set_cons_zero, List.set_cons_succ]
        refine wpAnyH_take (i := 22) (oi := { dst := some 51, op := Go.Op.move (Go.Operand.tmp 6), type := 27, pos := "law.go:105", after := #[{ on := 19, ground := Go.Ground.guard }], guard := some (19, false) }) (v := ?vz34) rfl (by kernel_rfl) (by kernel_rfl) (by kernel_rfl) (fun _ _ _ h => h) (Or.inl ⟨by rfl, ?yz34⟩) (by assumption) ?rz34
        case yz34 => (intro w hSw; (try dsimp only at hSw); go_simp; (try with_reducible rfl))
        try simp only [Act.put, List.setIfInBounds_toArray, List.set_cons_zero, List.set_cons_succ]
        refine wpAnyH_ready (rs := [21]) (by kernel_rfl) (by simp) ?_
        refine AllReadyH.cons (o := { dst := some 50, op := Go.Op.call { callee := Go.Callee.value (Go.Operand.func 12), args := #[Go.Operand.tmp 49], argTypes := #[25] }, type := 2, pos := "law.go:105", after := #[{ on := 20, ground := Go.Ground.data }, { on := 19, ground := Go.Ground.chain }, { on := 19, ground := Go.Ground.guard }], guard := some (19, false) }) rfl (fun K hK => ?_) AllReadyH.nil
        go_simp
        refine HBy.out.mono ?_; rintro en10 w10 ⟨rfl, rfl⟩
        (try go_wp2_with fail)
        refine hK.out _ _ S3.out (fun hHeld => ?_)
        clear hK
        try simp only [Act.put, List.setIfInBounds_toArray, List.set_cons_zero, List.set_cons_succ]
        refine wpAnyH_ready (rs := [23]) (by kernel_rfl) (by simp) ?_
        refine AllReadyH.cons (o := { dst := some 52, op := Go.Op.call { callee := Go.Callee.value (Go.Operand.func 13), args := #[Go.Operand.tmp 51], argTypes := #[27] }, type := 2, pos := "law.go:105", after := #[{ on := 22, ground := Go.Ground.data }, { on := 21, ground := Go.Ground.chain }, { on := 19, ground := Go.Ground.guard }], guard := some (19, false) }) rfl (fun K hK => ?_) AllReadyH.nil
        go_simp
        refine HRB.out.mono ?_; rintro en11 w11 ⟨rfl, hb11⟩
        have H11 := Lib.hid (H9.out.bel hb11)
        have S5 := Lib.hid (box10 (H11.out.pull 2 rfl))
        unfold Box10 at S5
        clear hb11 H9 HRB HBy
        (try go_wp2_with fail)
        refine hK.out _ _ S5.out (fun hHeld => ?_)
        clear hK
        try simp only [Act.put, List.setIfInBounds_toArray, List.set_cons_zero, List.set_cons_succ]
        refine wpAnyH_take (i := 24) (oi := { dst := some 53, op := Go.Op.binOp Go.BinOp.neq 2 (Go.Operand.tmp 50) (Go.Operand.tmp 52) 2, type := 4, pos := "law.go:105", after := #[{ on := 21, ground := Go.Ground.data }, { on := 23, ground := Go.Ground.data }, { on := 19, ground := Go.Ground.guard }], guard := some (19, false) }) (v := ?vz35) rfl (by kernel_rfl) (by kernel_rfl) (by kernel_rfl) (fun _ _ _ h => h) (Or.inl ⟨by rfl, ?yz35⟩) (by assumption) ?rz35
        case yz35 => (intro w hSw; (try dsimp only at hSw); go_simp; (try with_reducible rfl))
        try simp only [Act.put, List.setIfInBounds_toArray, List.set_cons_zero, List.set_cons_succ]
        refine wpAnyH_take (i := 25) (oi := { dst := some 54, op := Go.Op.pick (Go.Operand.tmp 48) (Go.Operand.const (Go.Value.bool true)) (Go.Operand.tmp 53), type := 4, pos := "law.go:105", after := #[{ on := 19, ground := Go.Ground.data }, { on := 24, ground := Go.Ground.data }], guard := none }) (v := ?vz36) rfl (by kernel_rfl) (by kernel_rfl) (by kernel_rfl) (fun _ _ _ h => h) (Or.inl ⟨by rfl, ?yz36⟩) (by assumption) ?rz36
        case yz36 => (intro w hSw; (try dsimp only at hSw); go_simp; (try with_reducible rfl))
        try simp only [Act.put, List.setIfInBounds_toArray, List.set_cons_zero, List.set_cons_succ]
        refine wpAnyH_done (by kernel_rfl) ?_ _
        clear cE cB H8 S2 S3 S5
        have HEv := Lib.hid (events_calls H11.out (Below.refl _ _) HO1.out)
        unfold ptr at HEv
        clear H11
        go_wp2_with fail
        refine HEv.out.mono ?_; rintro en12 w12 ⟨v12, rfl, h12⟩
        have HTl := Lib.hid (rtell_calls (h12.pull 2 rfl) (Below.refl _ _))
        obtain ⟨ea, ec, rfl, -⟩ := ate h12
        clear h12 HEv
        go_wp2_with fail
        refine HTl.out.mono ?_; rintro en13 w13 ⟨v13, rfl, h13⟩
        obtain ⟨ea2, ec2, rfl, ha2⟩ := ate h13
        obtain ⟨ea3, ec3, e3, ha3⟩ := ate (h13.pull 2 rfl)
        injection e3 with e31 e32 e33
        subst e31 e33
        have HSm := Lib.hid (sameE_calls w13 ea ea2 ec ec2 m1.ev (by omega) ha3 ha2)
        have H13 : Hid (Hp w w13 [storeT T (toldM m1), refT B (toldM m1)]) := Lib.hid (((h13.dropAt 0 rfl).dropAt 1 rfl).dropAt 2 rfl |>.pull 1 rfl)
        clear h13 HTl ha2 ha3 e32
        go_wp2_with fail
        refine HSm.out.mono ?_; rintro en14 w14 ⟨rfl, hb14⟩
        have H14 := Lib.hid (H13.out.bel hb14)
        clear hb14 HSm H13
        go_wp2_with fail
        go_roundg (gk - 1)
        case measure => omega
        case rel => exact ⟨i + 1, toldM m1, nw, by go_num, by omega, by omega, rfl, hnw0, hnw1, Lib.hid HO1.out.told, Lib.hid ⟨HKL.out, rfl⟩, H14⟩
end Go.Proofs.YtmjlhmohglbecaaGreatDoor.Sa
