/- Package table: a table of a call's own, as one word; TableRoom. No condition. -/
import Derived.Test.YtpbblijnfigapaaTag
import Derived.Test.YtpbblijnfigapaaTai
import Derived.Laws.Runes
import Derived.Laws.Cover4
namespace Go.Proofs.Ytpbblijnfigapaa.Ta
open Go.ChangeShapes Go.WideShapes Go.ChangeAt Go.RowKit
/-- The table s at T, all of it at block b0 or above; what lay below in the world o stands. -/
def TB (b0 : Nat) (o : World) (T : Nat) (w : World) (s : St) : Prop := b0 ≤ o.heap.size ∧ ∃ A B, TAt w T A B s ∧ (∀ j, own T A B s j → b0 ≤ j) ∧ Fr (fun j => b0 ≤ j) o w
theorem TB.moved {b0 : Nat} {o : World} {T A B : Nat} {w w' : World} {s s' : St} (hb : b0 ≤ o.heap.size) (hP : ∀ j, own T A B s j → b0 ≤ j) (hF : Fr (fun j => b0 ≤ j) o w) (h : Moved T A B s w s' w') : TB b0 o T w' s' := by
  obtain ⟨H1, H2, a, b, c⟩ := h.tab (P := fun j => b0 ≤ j) hP (fun i hi => Nat.le_trans hb (Nat.le_trans hF.size hi))
  exact ⟨hb, H1, H2, a, b, hF.trans c⟩
theorem TB.put {b0 : Nat} {o : World} {T : Nat} {w : World} {s : St} (h : TB b0 o T w s) (hO : OkS 0 s) (hl : lenS s ≤ 511) (k : ByteArray) (hk1 : k.size ≤ 1000) (n : Int) :
    Calls Try.prog 11 #[.pointer (some ⟨T, 0, none⟩), .string k, .int .i64 n] w fun en w' => en = .returned (.bool (fnd (step s) k (hk k)).isNone) ∧ TB b0 o T w' (putS (step s) k n) := by
  obtain ⟨hb, A, B, hT, hP, hF⟩ := h
  exact (put_calls w T A B s hT hO hl k hk1 n).mono fun _ _ ⟨a, b⟩ => ⟨a, TB.moved hb hP hF b⟩
theorem TB.drop {b0 : Nat} {o : World} {T : Nat} {w : World} {s : St} (h : TB b0 o T w s) (hO : OkS 0 s) (k : ByteArray) (hk1 : k.size ≤ 1000) :
    Calls Try.prog 10 #[.pointer (some ⟨T, 0, none⟩), .string k] w fun en w' => en = .returned (.tuple #[.int .i64 (valS (step s) k), .bool (fnd (step s) k (hk k)).isSome]) ∧ TB b0 o T w' (dropS (step s) k) := by
  obtain ⟨hb, A, B, hT, hP, hF⟩ := h
  exact (drop_calls w T A B s hT hO k hk1).mono fun _ _ ⟨a, b⟩ => ⟨a, TB.moved hb hP hF b⟩
theorem TB.step {b0 : Nat} {o : World} {T : Nat} {w : World} {s : St} (h : TB b0 o T w s) (hO : OkS 0 s) :
    Calls Try.prog 16 #[.pointer (some ⟨T, 0, none⟩)] w fun en w' => en = .returned (.tuple #[]) ∧ TB b0 o T w' (step s) := by
  obtain ⟨hb, A, B, hT, hP, hF⟩ := h
  refine (step_calls w T A B s hT hO).mono fun _ _ ⟨a, H1, H2, b, c, d⟩ => ⟨a, hb, H1, H2, b, fun j hj => hP j (d j hj), hF.trans (c.mono hP)⟩
theorem TB.drew {b0 : Nat} {o : World} {T : Nat} {w : World} {s : St} (h : TB b0 o T w s) (n : Nat) : TB b0 o T (w.drewN n) s := by
  obtain ⟨hb, A, B, hT, hP, hF⟩ := h
  exact ⟨hb, A, B, hT.below (drewN_below w n), hP, hF.trans (Fr.drewN w n)⟩
theorem TB.room {b0 : Nat} {o : World} {T : Nat} {w : World} {s : St} (h : TB b0 o T w s) :
    Calls Try.prog 15 #[.pointer (some ⟨T, 0, none⟩)] w fun e w' => e = .returned (.tuple #[.int .i64 (s.now.length : Nat), .int .i64 (s.nxt.length : Nat)]) ∧ ∃ n, w' = w.drewN n := by
  obtain ⟨hb, A, B, hT, hP, hF⟩ := h
  exact room2_calls w T A B s hT
theorem TB.len {b0 : Nat} {o : World} {T : Nat} {w : World} {s : St} (h : TB b0 o T w s) {c : Int} (hO : Ok c s) :
    Calls Try.prog 12 #[.pointer (some ⟨T, 0, none⟩)] w fun e w' => e = .returned (.int .i64 (lenS s)) ∧ ∃ n, w' = w.drewN n := by
  obtain ⟨hb, A, B, hT, hP, hF⟩ := h
  exact len_calls w T A B s hT hO
theorem TB.below {b0 : Nat} {o : World} {T : Nat} {w : World} {s : St} (h : TB b0 o T w s) : Below b0 o w := h.2.elim fun _ ⟨_, _, _, hF⟩ => hF.below h.1 (fun i hi => by omega)
theorem TB.new {w w' : World} (hT : TAt w' (w.heap.size + 2) (w.heap.size + 1) (w.heap.size + 1) newS) (hb : Below w.heap.size w w') : TB w.heap.size w (w.heap.size + 2) w' newS :=
  ⟨Nat.le_refl _, _, _, hT, fun j hj => by
    rcases hj with e | e | ⟨e, -⟩
    · omega
    · omega
    · exact absurd e (Nat.lt_irrefl _), Fr.of_below hb⟩
theorem enc2 (x y : Int) : (Utf8.encode x ++ Utf8.encode y).size ≤ 1000 := by
  rw [ByteArray.size_append]
  have := encode_size_le x
  have := encode_size_le y
  omega
set_option maxHeartbeats 4000000 in
set_option maxRecDepth 100000 in
theorem tableRoom (many drops : Int) (h0 : -9223372036854775808 ≤ many ∧ many ≤ 9223372036854775807) (h1 : -9223372036854775808 ≤ drops ∧ drops ≤ 9223372036854775807) (w : World) :
    Calls Try.prog 4 #[.int .i64 many, .int .i64 drops] w fun e w' => e = .returned (.bool true) ∧ Below w.heap.size w w' := by
  have HA := Lib.hid (tableAlive w)
  go_enter Try.func4, Try.ntmps4
  go_wp2_with fail
  refine HA.out.mono ?_; rintro en w1 ⟨rfl, hb1⟩
  have HB1 := Lib.hid hb1
  clear hb1 HA
  by_cases hm0 : many < 0
  · go_wp2_with fail
    go_ret
    exact ⟨rfl, HB1.out⟩
  by_cases hm1 : 300 < many
  · go_wp2_with fail
    go_ret
    exact ⟨rfl, HB1.out⟩
  by_cases hd0 : drops < 0
  · go_wp2_with fail
    go_ret
    exact ⟨rfl, HB1.out⟩
  obtain ⟨M, rfl⟩ := Int.eq_ofNat_of_zero_le (by omega : 0 ≤ many)
  obtain ⟨D, rfl⟩ := Int.eq_ofNat_of_zero_le (by omega : 0 ≤ drops)
  have HN := Lib.hid (newT_calls w1)
  go_wp2_with fail
  refine HN.out.mono ?_; rintro en w2 ⟨rfl, hT, hb2⟩
  have HT := Lib.hid (TB.new hT hb2)
  clear hT hb2 HN
  generalize w1.heap.size + 2 = T at *
  go_wp2_with fail
  go_loopg [6, 7, 8, 9] (M + 1) (fun g vi _ _ _ wr => ∃ (i : Nat) (s : St), vi = .int .i64 i ∧ i ≤ M ∧ M - i ≤ g ∧ Hid (RI i s) ∧ Hid (TB w1.heap.size w1 T wr s))
  case atStart => exact ⟨0, newS, rfl, by omega, by omega, Lib.hid RI.new, HT⟩
  case round =>
    obtain ⟨i, s, rfl, hi, hg, HR, HT1⟩ := hrel
    clear HT
    by_cases him : i < M
    case neg =>
      have hic : ¬ ((i : Int) < (M : Int)) := by omega
      have HS0 := Lib.hid (SI.start HR.out)
      clear HR
      go_wp2_with fail
      go_loopg [10] 401 (fun g vj wr => ∃ (j : Nat) (s : St), vj = .int .i64 j ∧ j ≤ 400 ∧ 400 - j ≤ g ∧ Hid (SI j s) ∧ Hid (TB w1.heap.size w1 T wr s))
      case atStart => exact ⟨0, s, rfl, by omega, by omega, HS0, HT1⟩
      case round =>
        obtain ⟨j, s, rfl, hj, hg, HR, HT2⟩ := hrel
        by_cases hjm : j < 400
        · have hjc : (j : Int) < 400 := by omega
          have HSt := Lib.hid (HT2.out.step HR.out.ok)
          go_wp2_with fail
          refine HSt.out.mono ?_; rintro en w4 ⟨rfl, hT4⟩
          have HT4 := Lib.hid hT4
          clear hT4
          go_wp2_with fail
          go_roundg (gk - 1)
          case measure => omega
          case rel => exact ⟨j + 1, _, by go_num, by omega, by omega, Lib.hid HR.out.step, HT4⟩
        · have hjc : ¬ ((j : Int) < 400) := by omega
          obtain rfl : j = 400 := by omega
          have HRm := Lib.hid HT2.out.room
          rw [HR.out.stop] at HRm
          have HBe := Lib.hid HT2.out.below
          go_wp2_with fail
          refine HRm.out.mono ?_; rintro en w4 ⟨rfl, n, rfl⟩
          go_wp2_with fail
          go_ret
          exact ⟨rfl, HB1.out.trans ((HBe.out.trans (below_drewN (Below.refl _ _) n)).mono HB1.out.size)⟩
    case pos =>
      have hic : (i : Int) < (M : Int) := by omega
      have e1 : (i : Int) % 26 + 97 < 2147483648 ∧ 0 ≤ (i : Int) % 26 + 97 := by omega
      have e2 : (i : Int) / 26 + 97 < 2147483648 ∧ 0 ≤ (i : Int) / 26 + 97 := by omega
      have e3 := encode_size_le (97 + (i : Int) % 26)
      have e4 := encode_size_le (97 + (i : Int) / 26)
      have e5 := enc2 (97 + (i : Int) % 26) (97 + (i : Int) / 26)
      generalize hE : Utf8.encode = E at *
      have e6 : (E (97 + (i : Int) % 26)).size + (E (97 + (i : Int) / 26)).size ≤ 9223372036854775807 := by omega
      have HPu := Lib.hid (HT1.out.put HR.out.ok (by have := HR.out.len; omega) (E (97 + (i : Int) % 26) ++ E (97 + (i : Int) / 26)) e5 i)
      have HDr := Lib.hid (fun (o : World) (s : St) (h : TB w1.heap.size w1 T o s) (hO : OkS 0 s) => h.drop hO (E (97 + (i : Int) % 26) ++ E (97 + (i : Int) / 26)) e5)
      have HRu := Lib.hid (HR.out.step.put (step_ok HR.out.ok) (by omega) (E (97 + (i : Int) % 26) ++ E (97 + (i : Int) / 26)) e5 i)
      have HRd := Lib.hid (fun (s : St) (h : RI (i + 1) s) => h.step.drop (step_ok h.ok) (E (97 + (i : Int) % 26) ++ E (97 + (i : Int) / 26)))
      go_wp2_with fail
      clear e1 e2 e3 e4 e5 e6 hE
      generalize E (97 + (i : Int) % 26) ++ E (97 + (i : Int) / 26) = k at *
      refine HPu.out.mono ?_; rintro en w3 ⟨rfl, hT3⟩
      have HT3 := Lib.hid hT3
      clear hT3 HPu HR HT1
      generalize putS (step s) k i = s2 at *
      have HRm := Lib.hid HT3.out.room
      have HFr := Lib.hid (room_free HRu.out.ok)
      go_wp2_with fail
      refine HRm.out.mono ?_; rintro en w4 ⟨rfl, n4, rfl⟩
      have HT4 := Lib.hid (HT3.out.drew n4)
      generalize w3.drewN n4 = w4 at *
      clear HT3 HRm
      have HLn := Lib.hid (HT4.out.len HRu.out.ok.toOk)
      go_upto_region 12 with fail
      go_cut [70] (fun v70 wc => v70 = .bool false ∧ Hid (TB w1.heap.size w1 T wc s2))
      case first =>
        rcases Nat.eq_zero_or_pos s2.nxt.length with hn | hn
        · have h1 := HFr.out.1 hn
          have hn1 : ¬ 0 < (s2.nxt.length : Int) := by omega
          have hn2 : ((s2.nxt.length : Int) == 0) = true := by rw [hn]; rfl
          clear hn
          go_wp2_with fail
          refine HLn.out.mono ?_; rintro en w5 ⟨rfl, n5, rfl⟩
          have HT5 := Lib.hid (HT4.out.drew n5)
          go_wp2_with fail
          go_meet
          exact ⟨by first | rfl | (rw [decide_eq_false (by omega)]) | (rw [decide_eq_false (by omega)]; simp), HT5⟩
        · have h1 := HFr.out.2 hn
          have hn1 : 0 < (s2.nxt.length : Int) := by omega
          have hn2 : ((s2.nxt.length : Int) == 0) = false := beq_eq_false_iff_ne.2 (by omega)
          have hb1 := HRu.out.ok.b1
          have hb2 := HRu.out.ok.b2
          go_wp2_with fail
          refine HLn.out.mono ?_; rintro en w5 ⟨rfl, n5, rfl⟩
          have HT5 := Lib.hid (HT4.out.drew n5)
          go_wp2_with fail
          go_meet
          exact ⟨by first | rfl | (rw [decide_eq_false (by omega)]) | (rw [decide_eq_false (by omega)]; simp), HT5⟩
      case rest =>
        obtain ⟨rfl, HT5⟩ := hcut
        clear HT4 HLn HFr
        have HDr2 := Lib.hid (HDr.out _ _ HT5.out HRu.out.ok)
        by_cases hD : 0 < D
        · have hD1 : (0 : Int) < (D : Int) := by omega
          have hq : 0 ≤ (D : Int) % 7 ∧ (D : Int) % 7 < 7 := by omega
          generalize hqe : (D : Int) % 7 = q at *
          have hq2 : (q + 2 == 0) = false := beq_eq_false_iff_ne.2 (by omega)
          cases hc : ((i : Int) % (q + 2) == 1)
          · go_wp2_with fail
            go_roundg (gk - 1)
            case measure => omega
            case rel => exact ⟨i + 1, _, by go_num, by omega, by omega, HRu, HT5⟩
          · go_wp2_with fail
            refine HDr2.out.mono ?_; rintro en w6 ⟨rfl, hT6⟩
            have HT6 := Lib.hid hT6
            clear hT6
            go_wp2_with fail
            go_roundg (gk - 1)
            case measure => omega
            case rel => exact ⟨i + 1, _, by go_num, by omega, by omega, Lib.hid (HRd.out _ HRu.out), HT6⟩
        · have hD1 : ¬ (0 : Int) < (D : Int) := by omega
          go_wp2_with fail
          go_roundg (gk - 1)
          case measure => omega
          case rel => exact ⟨i + 1, _, by go_num, by omega, by omega, HRu, HT5⟩
end Go.Proofs.Ytpbblijnfigapaa.Ta
