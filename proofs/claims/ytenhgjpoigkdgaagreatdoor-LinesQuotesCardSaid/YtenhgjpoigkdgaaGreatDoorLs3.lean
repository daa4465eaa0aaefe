/- The walk of the law LinesQuotes: true. Conditions: what start-up lays ('PCtx', the table of marks); the variable MaxLen holds some int; how the slice lies. -/
import Derived.Test.YtenhgjpoigkdgaaGreatDoorLc4
import Derived.Test.YtenhgjpoigkdgaaGreatDoorLc3
import Derived.Test.YtenhgjpoigkdgaaGreatDoorLq5
import Derived.Test.YtenhgjpoigkdgaaGreatDoorLt1
namespace Go.Proofs.YtenhgjpoigkdgaaGreatDoor.Ln
open Go.ChangeShapes Go.WideShapes Go.ChangeAt Go.RowKit
theorem take_len_succ2 {ws : List (List UInt8)} {j K : Nat} (hj : j < ws.length) (h : ∀ t ∈ ws.take j, t.length ≤ K) (h2 : ws[j].length ≤ K) : ∀ t ∈ ws.take (j + 1), t.length ≤ K := by
  intro t ht
  rw [← List.take_append_getElem hj, List.mem_append] at ht
  rcases ht with ht | ht
  · exact h t ht
  · rw [List.mem_singleton] at ht; subst ht; exact h2
theorem tot_le {ws : List (List UInt8)} {K : Nat} (h : ∀ t ∈ ws, t.length ≤ K) : Lw.tot ws ≤ K * ws.length := by
  induction ws with
  | nil => simp [Lw.tot]
  | cons t ws ih =>
    have h1 := ih fun t ht => h t (List.mem_cons_of_mem _ ht)
    have h2 := h t (List.mem_cons_self ..)
    have h3 : Lw.tot (t :: ws) = t.length + Lw.tot ws := by simp [Lw.tot]
    rw [h3, List.length_cons, Nat.mul_succ]
    omega
theorem check_ok {ws : List (List UInt8)} (h : ws.length ≤ 64) (h2 : ∀ t ∈ ws, t.length ≤ 500) : Lw.check ws = some ws := by
  unfold Lw.check
  rw [if_pos]
  simp only [Bool.and_eq_true, decide_eq_true_eq, List.all_eq_true]
  refine ⟨h, fun t ht => ?_⟩
  have := h2 t ht
  unfold Lw.fine
  exact decide_eq_true (by omega)
set_option maxHeartbeats 8000000 in
set_option maxRecDepth 1000000 in
theorem linesQuotes (w : World) (hc : PCtx w) (hk : Marks w) (hmx : MaxOk w) (a : Option Addr) (c : Nat) (ws : List (List UInt8)) (hc1 : ws.length ≤ c) (hc2 : c ≤ 9223372036854775807) (hI : InSo w a ws) :
    Calls Tryz.prog 4 #[.slice a ws.length c] w fun e w' => e = .returned (.bool true) ∧ Below w.heap.size w w' := by
  have HA := Lib.hid (alive_calls w hc hmx)
  have HI := Lib.hid hI
  have HC := Lib.hid (fun (w1 : World) (h : Below w.heap.size w w1) => hc.below h)
  have HK := Lib.hid (fun (w1 : World) (h : Below w.heap.size w w1) => hk.below h)
  have HM := Lib.hid (fun (w1 : World) (h : Below w.heap.size w w1) => hmx.below h)
  clear hc hk hmx hI
  go_enter Tryz.func4, Tryz.ntmps4
  go_wp2_with fail
  refine HA.out.mono ?_; rintro en w1 ⟨rfl, hb1⟩
  have Hb1 := Lib.hid hb1
  clear hb1
  by_cases h64 : (64 : Int) < (ws.length : Int)
  case pos =>
    go_wp2_with fail
    go_ret
    exact ⟨rfl, Hb1.out⟩
  go_wp2_with fail
  go_loopw [3, 5, 22] (fun zv _ vi wr => ∃ (j z : Nat), vi = .int .i64 j ∧ zv = .int .i64 z ∧ z ≤ 500 * j ∧ j ≤ ws.length ∧ wr = w1 ∧ Hid (∀ t ∈ ws.take j, t.length ≤ 500)) (fun _ _ vi _ => ws.length - (intOf vi).toNat)
  case atStart => exact ⟨0, 0, rfl, rfl, by omega, by omega, rfl, Lib.hid (fun t ht => by cases ht)⟩
  case round =>
    obtain ⟨j, z, rfl, rfl, hz, hj, rfl, HL⟩ := hrel
    by_cases hlt : j < ws.length
    case pos =>
      obtain ⟨g, o, rfl, hcells⟩ := (HI.out.below Hb1.out) (by omega)
      have hcell := hcells j hlt
      have hsz := size_of ws[j]
      have HL2 := Lib.hid (take_len_succ2 (K := 500) hlt HL.out)
      clear hcells
      generalize (⟨ws[j].toArray⟩ : ByteArray) = S at *
      generalize ws[j] = t at *
      by_cases hbig : (500 : Int) < (S.size : Int)
      case pos =>
        go_wp2_with fail
        all_goals go_ret
        all_goals exact ⟨rfl, Hb1.out⟩
      case neg =>
        have HL3 := Lib.hid (HL2.out (by omega))
        go_wp2_with fail
        go_roundw
        case rel => exact ⟨j + 1, z + S.size, by go_num, by go_num, by omega, by omega, by first | rfl | trivial, HL3⟩
        case measure => simp [intOf]; omega
    case neg =>
      obtain rfl : j = ws.length := by omega
      have HW5 : Hid (∀ t ∈ ws, t.length ≤ 500) := Lib.hid (by have h := HL.out; rwa [List.take_length] at h)
      have HW6 : Hid (∀ t ∈ ws, t.length ≤ 4096) := Lib.hid (fun t ht => by have := HW5.out t ht; omega)
      clear HL
      have hck := check_ok (ws := ws) (by omega) HW5.out
      have hql := Lw.quote_len2 ws 0
      have htot := tot_le HW5.out
      have Hck := Lib.hid hck
      have hrun := Lw.quote_run ws [] (by rfl) 0 []
      rw [List.nil_append, List.append_nil, hck] at hrun
      have HQ := Lib.hid (quote2_calls wr a c ws (by omega) HW6.out (HI.out.below Hb1.out) hc1 hc2)
      have HRQ := Lib.hid (fun (w2 : World) (h : Below w.heap.size w w2) => rquote_calls w2 a c ws (by omega) HW6.out hc1 hc2 (HI.out.below h))
      have Hpq := Lib.hid (fun h0 hq => parse_quoted ws h0 hck hq)
      obtain ⟨Q, hQ, hQs, HQd⟩ : ∃ Q : ByteArray, (⟨(Lw.quoteFrom 0 ws).toArray⟩ : ByteArray) = Q ∧ Q.size = (Lw.quoteFrom 0 ws).length ∧ Hid (Q.data.toList = Lw.quoteFrom 0 ws) := ⟨_, rfl, size_of _, Lib.hid (bytes_of _)⟩
      rw [hQ] at HQ HRQ
      have HWd := Lib.hid (fun (w2 : World) (h : Below w.heap.size w w2) => by
        have h2 := words_calls Q (by omega) w2 (HC.out w2 h).toLCtx
        rw [HQd.out, hrun] at h2
        exact h2)
      have hqs : Q.size ≤ 200000 := by omega
      have hq0 : 0 < ws.length → (Lw.quoteFrom 0 ws).length ≤ 4000 → Lw.parseR (Lw.quoteFrom 0 ws ++ [13, 10]) = .got ws ((Lw.quoteFrom 0 ws).length + 2) := Hpq.out
      have Hq0 := Lib.hid hq0
      have hcl := cmdL_len ws (by omega) HW6.out
      have Hpc := Lib.hid (parse_cmd ws (by omega) HW6.out)
      clear hrun hck hQ hql htot Hpq hq0
      go_wp2_with fail
      refine HQ.out.mono ?_; rintro en w2 ⟨rfl, hb2⟩
      have Hb2 := Lib.hid (bstep Hb1.out hb2)
      clear hb2
      go_wp2_with fail
      refine (HWd.out _ Hb2.out).mono ?_; intro en w3 hans
      obtain ⟨hb3, ⟨h, -⟩ | ⟨ws3, v3, h, rfl, hS3⟩⟩ := hans
      · cases h
      injection h with h
      subst h
      obtain ⟨a3, c3, rfl, hd3, hm3, hI3⟩ := (Lie.of hS3).facts
      have Hb3 := Lib.hid (bstep Hb2.out hb3)
      have HI3 : Hid (InS w3 a3 ws) := Lib.hid hI3
      clear hb3 hS3 hI3
      go_wp2_with fail
      refine (HRQ.out _ Hb3.out).mono ?_; rintro en w4 ⟨rfl, hb4⟩
      have Hb4 := Lib.hid (bstep Hb3.out hb4)
      have HS4 := Lib.hid (same2_calls w4 a3 a c3 c ws (by omega) (HI3.out.below hb4) (HI.out.below Hb4.out) hd3 hm3)
      clear hb4
      go_wp2_with fail
      refine HS4.out.mono ?_; rintro en w5 ⟨rfl, hb5⟩
      have Hb5 := Lib.hid (bstep Hb4.out hb5)
      clear hb5
      have HCm := Lib.hid (fun (w2 : World) (h : Below w.heap.size w w2) => command_calls w2 (HC.out w2 h) (HK.out w2 h) a c ws (by omega) HW6.out hc1 hc2 (HI.out.below h))
      go_wp2_with fail
      refine (HCm.out _ Hb5.out).mono ?_; rintro en w6 ⟨v6, rfl, hB6⟩
      have Hb6 := Lib.hid (Hb5.out.trans (hB6.bel.mono Hb5.out.size))
      obtain ⟨a6, c6, rfl, hI6, hn6⟩ := inb_of_own (own_of_buf hB6)
      have hP6 := parse_calls (cmdL ws) (by omega) a6 c6 hn6 w6 (HC.out w6 Hb6.out) (HM.out w6 Hb6.out) hI6
      rw [Hpc.out] at hP6
      have HP6 := Lib.hid hP6
      clear hP6 hB6 hI6 hn6
      go_wp2_with fail
      refine HP6.out.mono ?_; intro en w7 hans
      obtain ⟨hb7, ⟨h, -⟩ | ⟨h, -⟩ | ⟨ws7, u7, v7, h, rfl, hS7⟩⟩ := hans
      · cases h
      · cases h
      injection h with h1 h2
      subst h1 h2
      obtain ⟨a7, c7, rfl, hd7, hm7, hI7⟩ := (Lie.of hS7).facts
      have Hb7 := Lib.hid (bstep Hb6.out hb7)
      have HI7 : Hid (InS w7 a7 ws) := Lib.hid hI7
      clear hb7 hS7 hI7
      go_wp2_with fail
      refine (HCm.out _ Hb7.out).mono ?_; rintro en w8 ⟨v8, rfl, hB8⟩
      have Hb8 := Lib.hid (Hb7.out.trans (hB8.bel.mono Hb7.out.size))
      have HS8 := Lib.hid (same2_calls w8 a7 a c7 c ws (by omega) (HI7.out.below hB8.bel) (HI.out.below Hb8.out) hd7 hm7)
      obtain ⟨a8, c8, rfl, -, -⟩ := inb_of_own (own_of_buf hB8)
      clear hB8
      go_wp2_with fail
      refine HS8.out.mono ?_; rintro en w9 ⟨rfl, hb9⟩
      have Hb9 := Lib.hid (bstep Hb8.out hb9)
      clear hb9
      cases hz0 : ((ws.length : Int) == 0)
      case true =>
        go_wp2_with fail
        go_ret
        exact ⟨rfl, Hb9.out⟩
      have hw0 : 0 < ws.length := by
        rw [beq_eq_false_iff_ne] at hz0
        omega
      by_cases h4000 : (4000 : Int) < (Q.size : Int)
      case pos =>
        go_wp2_with fail
        go_ret
        exact ⟨rfl, Hb9.out⟩
      obtain ⟨R, hR, hRs, HRd⟩ : ∃ R : ByteArray, Q ++ ⟨#[13, 10]⟩ = R ∧ R.size = Q.size + 2 ∧ Hid (R.data.toList = Lw.quoteFrom 0 ws ++ [13, 10]) := ⟨_, rfl, by rw [ByteArray.size_append]; rfl, Lib.hid (by rw [ByteArray.data_append, Array.toList_append, HQd.out])⟩
      obtain ⟨cx, wx, hcv, hbx, hIx⟩ := conv_text w9 R (by omega)
      have Hbx := Lib.hid (bstep Hb9.out hbx)
      have hPx := parse_calls R.data.toList (by rw [len_of]; omega) (some ⟨w9.heap.size, 0, none⟩) cx (fun e => by cases e) wx (HC.out wx Hbx.out) (HM.out wx Hbx.out) hIx
      rw [len_of, HRd.out, Hq0.out hw0 (by omega), hRs, hQs] at hPx
      have HPx := Lib.hid hPx
      clear hPx hIx hbx
      go_wp2_with fail
      refine HPx.out.mono ?_; intro en w10 hans
      obtain ⟨hb10, ⟨h, -⟩ | ⟨h, -⟩ | ⟨ws10, u10, v10, h, rfl, hS10⟩⟩ := hans
      · cases h
      · cases h
      injection h with h1 h2
      subst h1 h2
      obtain ⟨a10, c10, rfl, hd10, hm10, hI10⟩ := (Lie.of hS10).facts
      have Hb10 := Lib.hid (bstep Hbx.out hb10)
      have HS10 := Lib.hid (same2_calls w10 a10 a c10 c ws (by omega) hI10 (HI.out.below Hb10.out) hd10 hm10)
      clear hb10 hS10 hI10
      go_wp2_with fail
      refine HS10.out.mono ?_; rintro en w11 ⟨rfl, hb11⟩
      have Hb11 := Lib.hid (bstep Hb10.out hb11)
      clear hb11
      go_wp2_with fail
      go_ret
      exact ⟨rfl, Hb11.out⟩
end Go.Proofs.YtenhgjpoigkdgaaGreatDoor.Ln
