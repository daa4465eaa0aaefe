/- The checking package's Parse, at every text. No condition but a bound. -/
import Derived.Test.YtenhgjpoigkdgaaGreatDoorLr7
namespace Go.Proofs.YtenhgjpoigkdgaaGreatDoor.Ln
open Go.ChangeShapes Go.WideShapes Go.ChangeAt Go.RowKit
open Go.Proofs.YtenhgjpoigkdgaaGreatDoor.Lw
/-- No line's end among the first bytes. -/
def NoLF (l : List UInt8) (k : Nat) : Prop := ∀ j (hj : j < l.length), j < k → l[j] ≠ 10
theorem typed_at {l : List UInt8} {k : Nat} (h : NoLF l k) (hk : k < l.length) (h42 : k < 4200) (h10 : l[k] = 10) {T : List UInt8} (hT : Lw.stripCR (l.take k) = T) :
    Lw.typedR l = match Lw.wrun (.gap []) T with
    | none => .bad
    | some ws => .got ws (k + 1) := by
  have hK : Lw.ahead Lw.isLF (l.take 4200) = k := by
    refine Lw.ahead_at (by rw [List.length_take]; omega) (fun j hj => ?_) ?_
    · rw [List.getElem_take]
      have := h j (by omega) hj
      unfold Lw.isLF
      simpa using this
    · rw [List.getElem_take, h10]; rfl
  rw [typedR_by l k hK, if_pos (by rw [List.length_take]; omega), List.take_take, show min k 4200 = k by omega, hT]
  cases Lw.wrun (.gap []) T <;> rfl
theorem typed_end {l : List UInt8} {k : Nat} (h : NoLF l k) (hk : k = min l.length 4200) : Lw.typedR l = if 4200 ≤ l.length then .bad else .short := by
  have hl : (l.take 4200).length = k := by rw [List.length_take]; omega
  have hK : Lw.ahead Lw.isLF (l.take 4200) = k := by
    rw [← hl]
    refine Lw.ahead_full fun j hj => ?_
    rw [List.getElem_take]
    have := h j (by omega) (by omega)
    unfold Lw.isLF
    simpa using this
  rw [typedR_by l k hK, if_neg (by omega), hl]
  by_cases h2 : 4200 ≤ l.length
  · rw [if_pos h2, if_pos (by omega)]
  · rw [if_neg h2, if_neg (by omega)]
theorem strip_yes {l : List UInt8} {k : Nat} (hk : k - 1 < l.length) (h0 : 0 < k) (h : l[k - 1] = 13) (hk2 : k ≤ l.length) : Lw.stripCR (l.take k) = l.take (k - 1) := by
  have hl : (l.take k).length = k := by rw [List.length_take]; omega
  have e : (l.take k).getLast? = some 13 := by
    rw [List.getLast?_eq_getElem?, hl, List.getElem?_take_of_lt (by omega), List.getElem?_eq_getElem hk, h]
  unfold Lw.stripCR
  rw [if_pos e, List.dropLast_eq_take, hl, List.take_take, show min (k - 1) k = k - 1 by omega]
theorem strip_no {l : List UInt8} {k : Nat} (h : ∀ (hk : k - 1 < l.length), 0 < k → l[k - 1] ≠ 13) (hk2 : k ≤ l.length) : Lw.stripCR (l.take k) = l.take k := by
  have hl : (l.take k).length = k := by rw [List.length_take]; omega
  unfold Lw.stripCR
  rw [if_neg]
  intro e
  by_cases h0 : 0 < k
  · rw [List.getLast?_eq_getElem?, hl, List.getElem?_take_of_lt (by omega), List.getElem?_eq_getElem (by omega)] at e
    exact h (by omega) h0 (Option.some.inj e)
  · obtain rfl : k = 0 := by omega
    cases e
theorem nolf_step {l : List UInt8} {k : Nat} (h : NoLF l k) (hk : k < l.length) (h10 : l[k] ≠ 10) : NoLF l (k + 1) := fun j hj h2 => by
  by_cases e : j = k
  · subst e; exact h10
  · exact h j hj (by omega)
theorem ext_to (s : ByteArray) (a : Nat) (h : a ≤ s.size) : ∃ T : ByteArray, s.extract 0 a = T ∧ T.size = a ∧ Hid (T.data.toList = s.data.toList.take a) := by
  have e : (s.extract 0 a).data.toList = s.data.toList.take a := by rw [ext_take]
  exact ⟨_, rfl, by rw [← len_of, e, List.length_take, len_of]; omega, Lib.hid e⟩
set_option maxHeartbeats 16000000 in
set_option maxRecDepth 1000000 in
theorem rparse_calls (s : ByteArray) (hs : s.size ≤ 1000000) (w : World) : Calls Tryz.prog 18 #[.string s] w (ParseAns (Lw.parseR s.data.toList) w) := by
  have hls := len_of s
  by_cases h42 : s.data.toList.head? = some 42
  case pos =>
    have HA := Lib.hid (rarray_calls s hs h42)
    have e : Lw.parseR s.data.toList = Lw.countedR s.data.toList := by unfold Lw.parseR; rw [if_pos h42]
    rw [e]
    obtain ⟨h0, hb⟩ : ∃ h0 : 0 < s.size, s[0] = 42 := by
      cases hl : s.data.toList with
      | nil => rw [hl] at h42; cases h42
      | cons c r =>
        rw [hl] at h42
        obtain rfl : c = 42 := Option.some.inj h42
        exact head_of hl
    have hb2 : ((s[0].toNat : Int) == 42) = true := by rw [hb]; rfl
    clear e hb h42
    generalize Lw.countedR s.data.toList = o at *
    go_enter Tryz.func18, Tryz.ntmps18
    go_wp2_with fail
    refine (HA.out _).mono ?_
    rintro en w1 ⟨hb1, hans⟩
    have Hb1 := Lib.hid hb1
    clear hb1
    rcases hans with ⟨rfl, rfl⟩ | ⟨rfl, rfl⟩ | ⟨ws, u, v, rfl, rfl, hS⟩
    · go_wp2_with fail
      go_ret3
      exact ⟨Hb1.out, .inl ⟨rfl, rfl⟩⟩
    · go_wp2_with fail
      go_ret3
      exact ⟨Hb1.out, .inr (.inl ⟨rfl, rfl⟩)⟩
    · have HS := Lib.hid hS
      clear hS
      go_wp2_with fail
      go_ret3
      exact ⟨Hb1.out, .inr (.inr ⟨_, _, _, rfl, rfl, HS.out⟩)⟩
  case neg =>
    have e : Lw.parseR s.data.toList = Lw.typedR s.data.toList := by unfold Lw.parseR; rw [if_neg h42]
    rw [e]
    have HW := Lib.hid rwords_calls
    have hq : s.size = 0 ∨ ∃ h0 : 0 < s.size, ((s[0].toNat : Int) == 42) = false := by
      cases hl : s.data.toList with
      | nil => left; rw [← len_of, hl]; rfl
      | cons c r =>
        obtain ⟨h0, hc⟩ := head_of hl
        refine .inr ⟨h0, ?_⟩
        rw [hc, beq_eq_false_iff_ne]
        intro e
        rw [hl] at h42
        exact h42 (congrArg some (UInt8.toNat_inj.1 (by show c.toNat = 42; omega)))
    generalize ho : Lw.typedR s.data.toList = o
    have HO := Lib.hid ho
    clear ho e h42
    go_enter Tryz.func18, Tryz.ntmps18
    rcases hq with h0 | ⟨h0, hc42⟩
    · have HZ : Hid (o = .short) := Lib.hid (by rw [← HO.out, typed_end (k := 0) (fun j _ h => absurd h (by omega)) (by omega), if_neg (by omega)])
      clear HW HO
      go_wp2_with fail
      refine wp_loop_rounds 1 ?_
      rw [rounds_succ]
      go_wp2_with fail
      go_ret3
      exact ⟨Below.refl _ _, .inr (.inl ⟨HZ.out, rfl⟩)⟩
    · go_wp2_with fail
      go_loopw [8, 9, 10, 11] (fun iv _ _ _ wr => ∃ k : Nat, iv = .int .i64 k ∧ k ≤ s.size ∧ k ≤ 4200 ∧ NoLF s.data.toList k ∧ wr = w) (fun iv _ _ _ _ => s.size - (intOf iv).toNat)
      case atStart => exact ⟨0, rfl, by omega, by omega, fun j _ h => absurd h (by omega), rfl⟩
      case round =>
        obtain ⟨k, rfl, hk, hk2, hL, rfl⟩ := hrel
        have HL := Lib.hid hL
        clear hL
        by_cases hlt : k < s.size
        case neg =>
          have hR := typed_end HL.out (by omega)
          rw [HO.out] at hR
          by_cases h42 : (4200 : Int) ≤ (s.size : Int)
          · rw [if_pos (by omega)] at hR
            have HR := Lib.hid hR
            clear hR
            go_wp2_with fail
            go_ret3
            exact ⟨Below.refl _ _, .inl ⟨HR.out, rfl⟩⟩
          · rw [if_neg (by omega)] at hR
            have HR := Lib.hid hR
            clear hR
            go_wp2_with fail
            go_ret3
            exact ⟨Below.refl _ _, .inr (.inl ⟨HR.out, rfl⟩)⟩
        case pos =>
          by_cases h42 : k < 4200
          case neg =>
            have hR := typed_end HL.out (by omega)
            rw [HO.out, if_pos (by omega)] at hR
            have HR := Lib.hid hR
            clear hR
            have h42' : (4200 : Int) ≤ (s.size : Int) := by omega
            go_wp2_with fail
            go_ret3
            exact ⟨Below.refl _ _, .inl ⟨HR.out, rfl⟩⟩
          case pos =>
            cases e10 : ((s[k].toNat : Int) == 10)
            case false =>
              have ne10 : ((s[k].toNat : Int) != 10) = true := by show (!((s[k].toNat : Int) == 10)) = _; rw [e10]; rfl
              have HL2 := Lib.hid (nolf_step HL.out (by omega) (byte_not (n := 10) (by omega) e10))
              go_wp2_with fail
              go_roundw
              case rel => exact ⟨k + 1, by go_num, by omega, by omega, HL2.out, by first | rfl | trivial⟩
              case measure => simp [intOf]; omega
            case true =>
              have ne10 : ((s[k].toNat : Int) != 10) = false := by show (!((s[k].toNat : Int) == 10)) = _; rw [e10]; rfl
              by_cases h0k : 0 < k
              case neg =>
                obtain ⟨T, hT, hTs, HT⟩ := ext_to s k (by omega)
                have HZ := Lib.hid (HO.out.symm.trans (typed_at HL.out (by omega) h42 (byte_is (n := 10) (by omega) e10) (T := T.data.toList) (by rw [HT.out]; exact (strip_no (fun _ h => absurd h h0k) (by omega)))))
                clear HO
                go_wp2_with fail
                refine (HW.out T (by omega) _).mono ?_
                rintro en w2 ⟨hb2, hans⟩
                have Hb2 := Lib.hid hb2
                clear hb2
                rcases hans with ⟨e, rfl⟩ | ⟨ws, v, e, rfl, hS⟩
                · have HZ2 : Hid (o = .bad) := Lib.hid (by have h := HZ.out; rw [e] at h; exact h)
                  clear e HZ
                  go_wp2_with fail
                  go_ret3
                  exact ⟨Hb2.out, .inl ⟨HZ2.out, rfl⟩⟩
                · have HZ2 : Hid (o = .got ws (k + 1)) := Lib.hid (by have h := HZ.out; rw [e] at h; exact h)
                  have HS := Lib.hid hS
                  clear e HZ hS
                  go_wp2_with fail
                  go_ret3
                  exact ⟨Hb2.out, .inr (.inr ⟨_, _, _, HZ2.out, rfl, HS.out⟩)⟩
              case pos =>
                have hsub : ((k : Int) - 1).toNat = k - 1 := by omega
                have hk1 : k - 1 < s.size := by omega
                cases e13 : ((s[k - 1].toNat : Int) == 13)
                case false =>
                  obtain ⟨T, hT, hTs, HT⟩ := ext_to s k (by omega)
                  have HZ := Lib.hid (HO.out.symm.trans (typed_at HL.out (by omega) h42 (byte_is (n := 10) (by omega) e10) (T := T.data.toList) (by rw [HT.out]; exact (strip_no (fun _ _ => byte_not (n := 13) (by omega) e13) (by omega)))))
                  clear HO
                  go_wp2_with fail
                  refine (HW.out T (by omega) _).mono ?_
                  rintro en w2 ⟨hb2, hans⟩
                  have Hb2 := Lib.hid hb2
                  clear hb2
                  rcases hans with ⟨e, rfl⟩ | ⟨ws, v, e, rfl, hS⟩
                  · have HZ2 : Hid (o = .bad) := Lib.hid (by have h := HZ.out; rw [e] at h; exact h)
                    clear e HZ
                    go_wp2_with fail
                    go_ret3
                    exact ⟨Hb2.out, .inl ⟨HZ2.out, rfl⟩⟩
                  · have HZ2 : Hid (o = .got ws (k + 1)) := Lib.hid (by have h := HZ.out; rw [e] at h; exact h)
                    have HS := Lib.hid hS
                    clear e HZ hS
                    go_wp2_with fail
                    go_ret3
                    exact ⟨Hb2.out, .inr (.inr ⟨_, _, _, HZ2.out, rfl, HS.out⟩)⟩
                case true =>
                  obtain ⟨T, hT, hTs, HT⟩ := ext_to s (k - 1) (by omega)
                  have HZ := Lib.hid (HO.out.symm.trans (typed_at HL.out (by omega) h42 (byte_is (n := 10) (by omega) e10) (T := T.data.toList) (by rw [HT.out]; exact (strip_yes (by omega) h0k (byte_is (n := 13) (by omega) e13) (by omega)))))
                  clear HO
                  go_wp2_with fail
                  refine (HW.out T (by omega) _).mono ?_
                  rintro en w2 ⟨hb2, hans⟩
                  have Hb2 := Lib.hid hb2
                  clear hb2
                  rcases hans with ⟨e, rfl⟩ | ⟨ws, v, e, rfl, hS⟩
                  · have HZ2 : Hid (o = .bad) := Lib.hid (by have h := HZ.out; rw [e] at h; exact h)
                    clear e HZ
                    go_wp2_with fail
                    go_ret3
                    exact ⟨Hb2.out, .inl ⟨HZ2.out, rfl⟩⟩
                  · have HZ2 : Hid (o = .got ws (k + 1)) := Lib.hid (by have h := HZ.out; rw [e] at h; exact h)
                    have HS := Lib.hid hS
                    clear e HZ hS
                    go_wp2_with fail
                    go_ret3
                    exact ⟨Hb2.out, .inr (.inr ⟨_, _, _, HZ2.out, rfl, HS.out⟩)⟩
end Go.Proofs.YtenhgjpoigkdgaaGreatDoor.Ln
