/- Package lines' Words: the words of every line. Conditions: what start-up lays ('LCtx'); the text's bound. -/
import Derived.Test.YtenhgjpoigkdgaaGreatDoorLx7
namespace Go.Proofs.YtenhgjpoigkdgaaGreatDoor.Ln
open Go.ChangeShapes Go.WideShapes Go.ChangeAt Go.RowKit
open Go.Proofs.YtenhgjpoigkdgaaGreatDoor.Lw

theorem Row.slice {E : TypeId} {wb w : World} {v : Value} {l : List Value} (h : Row E wb w v l) : ∃ a c, v = .slice a l.length c ∧ l.length ≤ c ∧ c ≤ 9223372036854775807 := by
  obtain ⟨a, c, h1, h2, h3, -, -⟩ := h.facts
  exact ⟨a, c, h1, h2, h3⟩
theorem dropWhile_head {p : UInt8 → Bool} {l : List UInt8} {c : UInt8} {r : List UInt8} (h : l.dropWhile p = c :: r) : p c = false := by
  induction l with
  | nil => cases h
  | cons b l ih =>
    rw [List.dropWhile_cons] at h
    split at h
    · exact ih h
    · rename_i hb
      injection h with h _
      subst h
      simpa using hb
theorem dropWhile_len (p : UInt8 → Bool) (l : List UInt8) : (l.dropWhile p).length ≤ l.length := (List.dropWhile_suffix p).length_le
/-- What comes of a line's words. -/
def WordsAns (o : Option (List (List UInt8))) (w : World) (e : Ending) (w' : World) : Prop := Below w.heap.size w w' ∧
  ((o = none ∧ e = .returned (.tuple #[.slice none 0 0, .int .i64 61])) ∨ ∃ ws v, o = some ws ∧ e = .returned (.tuple #[v, .int .i64 0]) ∧ Strs w w' v ws)
theorem words_no {o : Option (List (List UInt8))} {w w' : World} (hb : Below w.heap.size w w') (h : o = none) : WordsAns o w (.returned (.tuple #[.slice none 0 0, .int .i64 61])) w' := ⟨hb, .inl ⟨h, rfl⟩⟩
theorem words_yes {o : Option (List (List UInt8))} {w w' : World} {ws : List (List UInt8)} {v : Value} (h : o = some ws) (hs : Strs w w' v ws) : WordsAns o w (.returned (.tuple #[v, .int .i64 0])) w' := ⟨hs.bel, .inr ⟨ws, v, h, rfl, hs⟩⟩
theorem check_bad {L : List (List UInt8)} {word : List UInt8} (h : 4096 < word.length ∨ 64 ≤ L.length) : check (L ++ [word]) = none := by
  unfold check
  rw [if_neg]
  simp only [Bool.and_eq_true, decide_eq_true_eq, List.length_append, List.length_singleton, List.all_append, List.all_cons, List.all_nil, Bool.and_true]
  rintro ⟨h1, -, h2⟩
  unfold fine at h2
  simp only [decide_eq_true_eq] at h2
  omega
theorem check_good {L : List (List UInt8)} {word : List UInt8} (hL : check L = some L) (h1 : word.length ≤ 4096) (h2 : L.length < 64) : check (L ++ [word]) = some (L ++ [word]) := by
  have h := (check_some hL).2
  unfold check
  rw [if_pos]
  simp only [Bool.and_eq_true, decide_eq_true_eq, List.length_append, List.length_singleton, List.all_append, List.all_cons, List.all_nil, Bool.and_true]
  exact ⟨by omega, h.2, by unfold fine; simpa using h1⟩

set_option maxHeartbeats 4000000 in
set_option maxRecDepth 1000000 in
theorem words_calls (s : ByteArray) (hs : s.size ≤ 1000000) (w : World) (hc : LCtx w) : Calls Tryz.prog 14 #[.string s] w (WordsAns (wrun (.gap []) s.data.toList) w) := by
  have HC := Lib.hid hc
  have HT := Lib.hid trimLeft_calls
  generalize ho : wrun (.gap []) s.data.toList = o
  have HO := Lib.hid ho
  clear hc ho
  go_enter Tryz.func14, Tryz.ntmps14
  go_wp2_with fail
  refine (HT.out s _).mono ?_; rintro en w1 ⟨rfl, hb1⟩
  have Hb1 := Lib.hid hb1
  clear hb1
  go_wp2_with fail
  go_loopg [0, 4, 5, 6, 7] s.size (fun g st lv _ _ _ wr => ∃ (t : ByteArray) (L : List (List UInt8)), st = .string t ∧ t.size ≤ g ∧ t.size ≤ s.size ∧ Strs w wr lv L ∧ Hid ((∀ c r, t.data.toList = c :: r → gap c = false) ∧ check L = some L ∧ wrun (.gap L) t.data.toList = o))
  case atStart =>
    have hl := dropWhile_len gap s.data.toList
    rw [len_of] at hl
    exact ⟨_, [], rfl, by rw [size_of]; exact hl, by rw [size_of]; exact hl, Row.start Hb1.out, Lib.hid ⟨fun c r h => by rw [bytes_of] at h; exact dropWhile_head h, rfl, by rw [bytes_of, ← wrun_trim]; exact HO.out⟩⟩
  case round =>
    obtain ⟨t, L, rfl, htg, hts, hS, HR⟩ := hrel
    obtain ⟨a, cp, rfl, hcp, hcm⟩ := hS.slice
    have hn : (cellsS L).length = L.length := cellsS_len L
    rw [hn] at hS hcp ⊢
    have HS := Lib.hid hS
    have hL64 : L.length ≤ 64 := (check_some HR.out.2.1).2.1
    clear hS hn
    by_cases h0 : 0 < t.size
    · obtain ⟨c, r, hcr⟩ := cons_of h0
      have hne : (!t.toList.isEmpty) = true := by rw [Lib.toList_data, hcr]; rfl
      have HF := Lib.hid (first_calls t (by omega) c r hcr (HR.out.1 c r hcr) wr (HC.out.below HS.out.bel))
      clear hcr
      go_wp2_with fail
      refine HF.out.mono ?_; rintro en w2 ⟨hb2, word, R, ok, rfl, hl, hlt, hr⟩
      have Hb2 := Lib.hid hb2
      have Hr := Lib.hid hr
      have Hlt := Lib.hid hlt
      clear hb2 hr HF hlt
      cases ok with
      | false =>
        go_wp2_with fail
        go_ret2
        exact words_no (bstep HS.out.bel Hb2.out) (by rw [← HR.out.2.2, Hr.out]; rfl)
      | true =>
        have Hr2 := Lib.hid (fun out => (Hr.out out).trans (if_pos rfl))
        clear Hr
        obtain ⟨W, hW, hWl, hWs⟩ : ∃ W : ByteArray, (⟨word.toArray⟩ : ByteArray) = W ∧ W.data.toList = word ∧ W.size = word.length := ⟨_, rfl, bytes_of _, size_of _⟩
        rw [hW]
        have HW := Lib.hid hW
        have HWs := Lib.hid hWs
        clear hW hWl hWs
        by_cases hbig : 4096 < W.size
        · go_wp2_with fail
          go_ret2
          exact words_no (bstep HS.out.bel Hb2.out) (by rw [← HR.out.2.2, Hr2.out]; exact wrun_bad _ _ _ (Nat.le_refl _) (check_bad (.inl (by rw [← HWs.out]; exact hbig))))
        · by_cases h64 : L.length = 64
          · have h64b : ((L.length : Int) == 64) = true := by rw [h64]; rfl
            go_wp2_with fail
            go_ret2
            exact words_no (bstep HS.out.bel Hb2.out) (by rw [← HR.out.2.2, Hr2.out]; exact wrun_bad _ _ _ (Nat.le_refl _) (check_bad (.inr (by omega))))
          · have h64b : ((L.length : Int) == 64) = false := by rw [beq_eq_false_iff_ne]; omega
            have HS2 := Lib.hid (HS.out.below Hb2.out)
            go_wp2_with (at_builtin; refine strs_push HS2.out rfl _ _ rfl rfl word _ _ _ rfl ?ha1 ?hl1 ?_)
            case ha1 => rw [HW.out]
            case hl1 => omega
            intro v3 w3 hS3
            have HS3 := Lib.hid hS3
            clear hS3
            go_wp2_with fail
            refine (HT.out R _).mono ?_; rintro en w4 ⟨rfl, hb4⟩
            have Hb4 := Lib.hid hb4
            clear hb4
            go_wp2_with fail
            go_roundg (gk - 1)
            case measure => omega
            case rel =>
              have hlen := dropWhile_len gap R.data.toList
              rw [len_of] at hlen
              have h1 := Hlt.out trivial
              refine ⟨_, L ++ [word], rfl, by rw [size_of]; omega, by rw [size_of]; omega, HS3.out.below Hb4.out, Lib.hid ⟨fun c r h => by rw [bytes_of] at h; exact dropWhile_head h, check_good HR.out.2.1 (by rw [← HWs.out]; omega) (by omega), ?_⟩⟩
              rw [bytes_of, ← wrun_trim, ← Hr2.out]
              exact HR.out.2.2
    · have hl0 : t.data.toList = [] := List.eq_nil_of_length_eq_zero (by rw [len_of]; omega)
      obtain rfl : t = ⟨#[]⟩ := text_ext hl0
      have Hl0 := Lib.hid hl0
      clear hl0
      go_wp2_with fail
      go_ret2
      refine words_yes ?_ HS.out
      have h : wrun (.gap L) [] = o := HR.out.2.2
      rw [w_gap0, HR.out.2.1] at h
      exact h.symm
end Go.Proofs.YtenhgjpoigkdgaaGreatDoor.Ln
