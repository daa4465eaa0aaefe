/- The walk of the law LinesStops: true. Conditions: what start-up lays ('PCtx', the table of marks); the variable MaxLen holds some int; how the slices lie. -/
import Derived.Test.YtenhgjpoigkdgaaGreatDoorLs1
import Derived.Test.YtenhgjpoigkdgaaGreatDoorLo3
import Derived.Test.YtenhgjpoigkdgaaGreatDoorLc2
import Derived.Test.YtenhgjpoigkdgaaGreatDoorLc3
namespace Go.Proofs.YtenhgjpoigkdgaaGreatDoor.Ln
open Go.ChangeShapes Go.WideShapes Go.ChangeAt Go.RowKit
theorem pE_other {l : List UInt8} (h : Lw.parseR l ≠ .bad) : pE (Lw.parseR l) = 0 := by
  cases e : Lw.parseR l with
  | bad => exact absurd e h
  | short => rfl
  | got ws u => rfl
theorem take_len_succ {ws : List (List UInt8)} {j K : Nat} (hj : j < ws.length) (h : ∀ t ∈ ws.take j, t.length ≤ K) (h2 : ws[j].length ≤ K) : ∀ t ∈ ws.take (j + 1), t.length ≤ K := by
  intro t ht
  rw [← List.take_append_getElem hj, List.mem_append] at ht
  rcases ht with ht | ht
  · exact h t ht
  · rw [List.mem_singleton] at ht; subst ht; exact h2
/-- A new object. -/
theorem own_new (w : World) : Own w.heap.size (w.heap.size + 1) (w.alloc (.cells #[.slice none 0 0, .bool false] 50)) [] :=
  ⟨Nat.lt_succ_self _, by simp, ⟨_, by go_simp, World.ownsRow_nil _ _ _ _⟩, by go_simp, by go_simp, by go_simp⟩
set_option maxHeartbeats 8000000 in
set_option maxRecDepth 1000000 in
theorem linesStops (w : World) (hc : PCtx w) (hk : Marks w) (hmx : MaxOk w) (a : Option Addr) (c : Nat) (ws : List (List UInt8)) (hc1 : ws.length ≤ c) (hc2 : c ≤ 9223372036854775807) (hI : InSo w a ws)
    (a2 : Option Addr) (c2 : Nat) (b : List UInt8) (hB : InB w a2 c2 b) (a3 : Option Addr) (c3 : Nat) (m : List UInt8) (hB3 : InB w a3 c3 m) :
    Calls Tryz.prog 5 #[.slice a ws.length c, .slice a2 b.length c2, .slice a3 m.length c3] w fun e w' => e = .returned (.bool true) ∧ Below w.heap.size w w' := by
  have HA := Lib.hid (alive_calls w hc hmx)
  have HV := Lib.hid (fun (w1 : World) (h : Below w.heap.size w w1) => (hB.below h).conv)
  have HR := Lib.hid rparse_calls
  have HB := Lib.hid hB
  have HI := Lib.hid hI
  have HC := Lib.hid (fun (w1 : World) (h : Below w.heap.size w w1) => hc.below h)
  have HK := Lib.hid (fun (w1 : World) (h : Below w.heap.size w w1) => hk.below h)
  have HM := Lib.hid (fun (w1 : World) (h : Below w.heap.size w w1) => hmx.below h)
  have hcap2 := hB.cap
  have hcap3 := hB3.cap
  have hcm2 := hB.max
  have hcm3 := hB3.max
  clear hc hk hmx hB hB3 hI
  go_enter Tryz.func5, Tryz.ntmps5
  go_wp2_with fail
  refine HA.out.mono ?_; rintro en w1 ⟨rfl, hb1⟩
  have Hb1 := Lib.hid hb1
  clear hb1
  cases hz : ((ws.length : Int) == 0)
  case true =>
    go_wp2_with fail
    go_ret
    exact ⟨rfl, Hb1.out⟩
  have hz0 : 0 < ws.length := by
    rw [beq_eq_false_iff_ne] at hz
    omega
  by_cases h20 : (20 : Int) < (ws.length : Int)
  case pos =>
    go_wp2_with fail
    go_ret
    exact ⟨rfl, Hb1.out⟩
  by_cases h500 : (500 : Int) < (b.length : Int)
  case pos =>
    go_wp2_with fail
    go_ret
    exact ⟨rfl, Hb1.out⟩
  by_cases h5003 : (500 : Int) < (m.length : Int)
  case pos =>
    go_wp2_with fail
    go_ret
    exact ⟨rfl, Hb1.out⟩
  go_wp2_with fail
  go_loopw [8, 42] (fun _ vi wr => ∃ j : Nat, vi = .int .i64 j ∧ j ≤ ws.length ∧ wr = w1 ∧ Hid (∀ t ∈ ws.take j, t.length ≤ 500)) (fun _ vi _ => ws.length - (intOf vi).toNat)
  case atStart => exact ⟨0, rfl, by omega, rfl, Lib.hid (fun t ht => by cases ht)⟩
  case round =>
    obtain ⟨j, rfl, hj, rfl, HL⟩ := hrel
    by_cases hlt : j < ws.length
    case pos =>
      obtain ⟨g, o, rfl, hcells⟩ := (HI.out.below Hb1.out) hz0
      have hcell := hcells j hlt
      have hsz := size_of ws[j]
      have HL2 := Lib.hid (take_len_succ (K := 500) hlt HL.out)
      clear hcells
      generalize (⟨ws[j].toArray⟩ : ByteArray) = S at *
      generalize ws[j] = t at *
      by_cases hbig : (500 : Int) < (S.size : Int)
      case pos =>
        go_wp2_with fail
        go_ret
        exact ⟨rfl, Hb1.out⟩
      case neg =>
        have HL3 := Lib.hid (HL2.out (by omega))
        go_wp2_with fail
        go_roundw
        case rel => exact ⟨j + 1, by go_num, by omega, by first | rfl | trivial, HL3⟩
        case measure => simp [intOf]; omega
    case neg =>
      obtain rfl : j = ws.length := by omega
      have HW5 : Hid (∀ t ∈ ws, t.length ≤ 500) := Lib.hid (by have h := HL.out; rwa [List.take_length] at h)
      clear HL
      obtain ⟨S, hS, hSs, hSd⟩ : ∃ S : ByteArray, (⟨b.toArray⟩ : ByteArray) = S ∧ S.size = b.length ∧ S.data.toList = b := ⟨_, rfl, size_of b, bytes_of b⟩
      have hr := fun w => HR.out S (by omega) w
      rw [hSd] at hr
      have hcv := HV.out wr Hb1.out
      rw [hS] at hcv
      have Hr := Lib.hid hr
      clear hr hS hSd HR HV
      by_cases hbad : Lw.parseR b = .bad
      case neg =>
        have hpe := pE_other hbad
        generalize Lw.parseR b = o at *
        go_wp2_with fail
        refine (Hr.out _).mono ?_; intro en w2 hans
        obtain ⟨hb2, x2, y2, rfl, -, -, -⟩ := hans.plain
        rw [hpe]
        have Hb2 := Lib.hid (bstep Hb1.out hb2)
        clear hans hb2
        go_wp2_with fail
        go_ret
        exact ⟨rfl, Hb2.out⟩
      have hb0 : 0 < b.length := by
        cases b with
        | nil => cases hbad
        | cons d b => simp
      have hr2 := Hr.out
      rw [hbad] at hr2
      have Hr2 := Lib.hid hr2
      have Hbad := Lib.hid hbad
      have hlen := cmdL_len ws (by omega) (fun t ht => by have := HW5.out t ht; omega)
      have Hpc : Hid (Lw.parseR (cmdL ws ++ b) = .got ws (cmdL ws).length) := Lib.hid (by
        have h := parse_cmd ws (by omega) (fun t ht => by have := HW5.out t ht; omega)
        rw [Lw.parseR_app _ _ (by rw [h]; exact fun e => by cases e), h])
      clear hr2 hbad Hr
      go_wp2_with fail
      refine (Hr2.out _).mono ?_; rintro en w2 ⟨hb2, hans⟩
      rcases hans with ⟨-, rfl⟩ | ⟨h, -⟩ | ⟨_, _, _, h, -⟩
      rotate_left
      · cases h
      · cases h
      have Hb2 := Lib.hid (bstep Hb1.out hb2)
      clear hb2 hcv
      go_wp2_with fail
      refine (new_calls _).mono ?_; rintro en w3 ⟨rfl, hw3⟩
      have hO3 := own_new w2
      rw [← hw3] at hO3
      have Hb3 : Hid (Below w2.heap.size w2 w3) := Lib.hid (by rw [hw3]; exact bbox _)
      have HO3 := Lib.hid hO3
      have hL : w.heap.size ≤ w2.heap.size := Hb2.out.size
      clear hw3 hO3
      generalize w2.heap.size = L at *
      have HbW3 : Hid (Below w.heap.size w w3) := Lib.hid (Hb2.out.trans (Hb3.out.mono hL))
      go_wp2_with fail
      have HCmd := Lib.hid (command_calls w3 (HC.out w3 HbW3.out) (HK.out w3 HbW3.out) a c ws (by omega) (fun t ht => by have := HW5.out t ht; omega) hc1 hc2 (HI.out.below HbW3.out))
      refine HCmd.out.mono ?_; rintro en w4 ⟨v4, rfl, hB4⟩
      have Hb4 := Lib.hid (HbW3.out.trans (hB4.bel.mono HbW3.out.size))
      have HO4 := Lib.hid (HO3.out.below hB4.bel)
      obtain ⟨a4, c4, rfl, hI4⟩ := InB.of_row hB4
      have HF4 := Lib.hid (feed_more L _ w4 [] HO4.out a4 c4 (cmdL ws) hI4 hlen.2 (by simp; omega))
      clear hB4 hI4 HCmd
      go_wp2_with fail
      refine HF4.out.mono ?_; rintro en w5 ⟨rfl, hO5, hb5⟩
      rw [List.nil_append] at hO5
      have Hb5 := Lib.hid (Hb4.out.trans (hb5.mono hL))
      have HF5 := Lib.hid (feed_more L _ w5 (cmdL ws) hO5 a2 c2 b (HB.out.below Hb5.out) hb0 (by omega))
      clear hO5 hb5 HF4
      go_wp2_with fail
      refine HF5.out.mono ?_; rintro en w6 ⟨rfl, hO6, hb6⟩
      have Hb6 := Lib.hid (Hb5.out.trans (hb6.mono hL))
      have HN6 := Lib.hid (next_more L w6 (cmdL ws ++ b) hO6.mid (by rw [List.length_append]; omega) (HC.out w6 Hb6.out) (HM.out w6 Hb6.out) ws (cmdL ws).length Hpc.out (by rw [List.length_append]; omega) hz0)
      clear hO6 hb6 HF5
      go_wp2_with fail
      refine HN6.out.mono ?_; rintro en w7 ⟨v7, rfl, hLie, hb7, hW7⟩
      rw [List.drop_left] at hW7
      have Hb7 := Lib.hid (Hb6.out.trans (hb7.mono hL))
      obtain ⟨a7, c7, rfl, hd7, hm7, hI7⟩ := hLie.facts
      have HS7 := Lib.hid (same2_calls w7 a7 a c7 c ws (by omega) hI7 (HI.out.below Hb7.out) hd7 hm7)
      have HW7 := Lib.hid hW7
      clear hW7 hb7 hLie hI7 HN6
      go_wp2_with fail
      refine HS7.out.mono ?_; rintro en w8 ⟨rfl, hb8⟩
      have Hb8 := Lib.hid (bstep Hb7.out hb8)
      have HW8 := Lib.hid (HW7.out.below hb8)
      clear hb8
      go_wp2_with fail
      go_loopw [16, 17, 18, 19] (fun kv _ _ _ wr => ∃ j : Nat, kv = .int .i64 j ∧ j ≤ 3 ∧ (Waits L wr b ∨ Failed L wr) ∧ Hid (Below w.heap.size w wr)) (fun kv _ _ _ _ => 3 - (intOf kv).toNat)
      case atStart => exact ⟨0, rfl, by omega, .inl HW8.out, Hb8⟩
      case round =>
        obtain ⟨j, rfl, hj, hst, HbR⟩ := hrel
        by_cases hj3 : j < 3
        case neg =>
          obtain rfl : j = 3 := by omega
          clear hst
          go_wp2_with fail
          go_ret
          exact ⟨rfl, HbR.out⟩
        case pos =>
          rcases hst with hWt | hFd
          · have HN := Lib.hid (next_bad L _ b hWt (by omega) (HC.out _ HbR.out) (HM.out _ HbR.out) Hbad.out)
            clear hWt
            go_wp2_with fail
            refine HN.out.mono ?_; rintro en w10 ⟨rfl, hF, hb10⟩
            have HF := Lib.hid hF
            have HbF := Lib.hid (HbR.out.trans (hb10.mono hL))
            clear hF hb10 HN
            go_wp2_with fail
            refine (left_calls L none 0 0 _ HF.out.c0).mono ?_; rintro en w11 ⟨rfl, rfl⟩
            go_wp2_with fail
            refine (feed_failed L _ HF.out _).mono ?_; rintro en w12 ⟨rfl, rfl⟩
            go_wp2_with fail
            go_roundw
            case rel => exact ⟨j + 1, by go_num, by omega, .inr HF.out, HbF⟩
            case measure => simp [intOf]; omega
          · have HF := Lib.hid hFd
            have HbF := HbR
            clear hFd
            go_wp2_with fail
            refine (next_failed L _ HF.out).mono ?_; rintro en w10 ⟨rfl, rfl⟩
            go_wp2_with fail
            refine (left_calls L none 0 0 _ HF.out.c0).mono ?_; rintro en w11 ⟨rfl, rfl⟩
            go_wp2_with fail
            refine (feed_failed L _ HF.out _).mono ?_; rintro en w12 ⟨rfl, rfl⟩
            go_wp2_with fail
            go_roundw
            case rel => exact ⟨j + 1, by go_num, by omega, .inr HF.out, HbF⟩
            case measure => simp [intOf]; omega
end Go.Proofs.YtenhgjpoigkdgaaGreatDoor.Ln
