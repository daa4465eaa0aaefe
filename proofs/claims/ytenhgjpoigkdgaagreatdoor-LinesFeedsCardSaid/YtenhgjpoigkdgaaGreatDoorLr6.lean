/- The checking package's Words, at every text. No condition but a bound. -/
import Derived.Test.YtenhgjpoigkdgaaGreatDoorLr1
import Derived.Test.YtenhgjpoigkdgaaGreatDoorLr5
import Derived.Test.YtenhgjpoigkdgaaGreatDoorLx8
import Derived.Test.YtenhgjpoigkdgaaGreatDoorLo1
import Derived.BigQuiet
namespace Go.Proofs.YtenhgjpoigkdgaaGreatDoor.Ln
open Go.ChangeShapes Go.WideShapes Go.ChangeAt Go.RowKit
open Go.Proofs.YtenhgjpoigkdgaaGreatDoor.Lw
theorem gap_ways (c : UInt8) : ((((c.toNat : Int) == 32) = true ∧ Hid (gap c = true)) ∨ (((c.toNat : Int) == 32) = false ∧ ((c.toNat : Int) == 9) = true ∧ Hid (gap c = true))) ∨ (((c.toNat : Int) == 32) = false ∧ ((c.toNat : Int) == 9) = false ∧ Hid (gap c = false)) := by
  cases e32 : ((c.toNat : Int) == 32)
  · cases e9 : ((c.toNat : Int) == 9)
    · exact .inr ⟨rfl, rfl, Lib.hid (gap_no e32 e9)⟩
    · exact .inl (.inr ⟨rfl, rfl, Lib.hid (gap_yes (.inr e9))⟩)
  · exact .inl (.inl ⟨rfl, Lib.hid (gap_yes (.inl e32))⟩)
theorem all_succ {M : List (List UInt8)} {j : Nat} (hj : j < M.length) (h : (M.take j).all fine = true) (h2 : M[j].length ≤ 4096) : (M.take (j + 1)).all fine = true := by
  rw [← List.take_append_getElem hj, List.all_append, h]
  simp [fine, h2]
theorem check_long {M : List (List UInt8)} {j : Nat} (hj : j < M.length) (h : 4096 < M[j].length) : check M = none := by
  unfold check
  rw [if_neg]
  simp only [Bool.and_eq_true, decide_eq_true_eq, List.all_eq_true]
  rintro ⟨-, h2⟩
  have := h2 _ (List.getElem_mem hj)
  unfold fine at this
  simp only [decide_eq_true_eq] at this
  omega
theorem check_all {M : List (List UInt8)} (h : M.length ≤ 64) (h2 : M.all fine = true) : check M = some M := by
  unfold check
  rw [if_pos]
  simp only [Bool.and_eq_true, decide_eq_true_eq]
  exact ⟨h, h2⟩
theorem strs_made (w : World) : Strs w (w.alloc (.cells #[] 9)) (.slice (some ⟨w.heap.size, 0, none⟩) 0 0) [] := ⟨World.ownsRow_made w #[] 0 (Nat.le_refl _) (Nat.zero_le _) rfl, bbox _⟩
theorem app_one {W T : ByteArray} {c : UInt8} (h : T.data.toList = [c]) : (W ++ T).data.toList = W.data.toList ++ [c] := by rw [ByteArray.data_append, Array.toList_append, h]
theorem size_one {W T : ByteArray} (h : T.size = 1) : (W ++ T).size = W.size + 1 := by rw [ByteArray.size_append, h]
/-- Where the checking package's Words stands at a byte. -/
def At6 (s : ByteArray) (o : Option (List (List UInt8))) (k : Nat) (L : List (List UInt8)) (W : ByteArray) (sv : Value) (mn : Int) : Prop :=
  (sv = .int .i64 0 ∧ Hid (wrun (.gap L) (s.data.toList.drop k) = o)) ∨ (sv = .int .i64 1 ∧ Hid (wrun (.bare W.data.toList L) (s.data.toList.drop k) = o)) ∨
  (sv = .int .i64 2 ∧ mn = 34 ∧ Hid (wrun (.marked 34 W.data.toList L) (s.data.toList.drop k) = o)) ∨ (sv = .int .i64 2 ∧ mn = 39 ∧ Hid (wrun (.marked 39 W.data.toList L) (s.data.toList.drop k) = o)) ∨
  (sv = .int .i64 3 ∧ Hid (wrun (.after L) (s.data.toList.drop k) = o))
set_option maxHeartbeats 16000000 in
set_option maxRecDepth 1000000 in
theorem rwords_calls (s : ByteArray) (hs : s.size ≤ 1000000) (w : World) : Calls Tryz.prog 30 #[.string s] w (WordsAns (wrun (.gap []) s.data.toList) w) := by
  have HH := Lib.hid rhex_calls
  have HE := Lib.hid (fun (w : World) (c : UInt8) (n : Int) (h : n = (c.toNat : Int)) => (by
    rw [h]
    refine (rone_calls w c).mono ?_
    rintro en w' ⟨rfl, hb⟩
    exact ⟨_, rfl, Lib.hid rfl, rfl, hb⟩ : Calls Tryz.prog 24 #[.int .u8 n] w fun e w' => ∃ T : ByteArray, e = .returned (.string T) ∧ Hid (T.data.toList = [c]) ∧ T.size = 1 ∧ Below w.heap.size w w'))
  generalize ho : wrun (.gap []) s.data.toList = o
  have HO := Lib.hid ho
  have hls := len_of s
  clear ho
  go_enter Tryz.func30, Tryz.ntmps30
  go_wp2_with fail
  go_loopg [4, 5, 6, 7, 8, 9, 10, 11, 12] s.size (fun g ov sv wv mv iv _ _ _ _ wr => ∃ (k : Nat) (L : List (List UInt8)) (W : ByteArray) (mn : Int), iv = .int .i64 k ∧ k ≤ s.size ∧ s.size - k ≤ g ∧ wv = .string W ∧ W.size ≤ k ∧ mv = .int .u8 mn ∧ L.length ≤ k ∧ Strs w wr ov L ∧ At6 s o k L W sv mn)
  case atStart =>
    exact ⟨0, [], ⟨#[]⟩, 0, rfl, by omega, by omega, rfl, by decide, rfl, by decide, strs_made w, .inl ⟨rfl, HO⟩⟩
  case round =>
    obtain ⟨k, L, W, mn, rfl, hk, hg, rfl, hW, rfl, hL, hS, hat⟩ := hrel
    obtain ⟨a, cp, rfl, hcp, hcm⟩ := hS.slice
    have hn : (cellsS L).length = L.length := cellsS_len L
    rw [hn] at hS hcp ⊢
    have HS := Lib.hid hS
    clear hS hn
    by_cases hlt : k < s.size
    case pos =>
      have hl2 : k < s.data.toList.length := by omega
      have hk1 : ((k : Int) + 1).toNat = k + 1 := by omega
      rcases hat with ⟨rfl, HR⟩ | ⟨rfl, HR⟩ | ⟨rfl, rfl, HR⟩ | ⟨rfl, rfl, HR⟩ | ⟨rfl, HR⟩
      · as_aux_lemma =>
          rcases gap_ways s[k] with hway | ⟨e32, e9, hgp⟩
          · rcases hway with ⟨e32, hgp⟩ | ⟨e32, e9, hgp⟩
            · go_wp2_with fail
              go_roundg (gk - 1)
              case measure => omega
              case rel => exact ⟨k + 1, L, W, mn, by go_num, by omega, by omega, rfl, by omega, rfl, by omega, HS.out, .inl ⟨rfl, Lib.hid (g_gap HR.out hl2 hgp.out)⟩⟩
            · go_wp2_with fail
              go_roundg (gk - 1)
              case measure => omega
              case rel => exact ⟨k + 1, L, W, mn, by go_num, by omega, by omega, rfl, by omega, rfl, by omega, HS.out, .inl ⟨rfl, Lib.hid (g_gap HR.out hl2 hgp.out)⟩⟩
          · cases e34 : ((s[k].toNat : Int) == 34)
            · cases e39 : ((s[k].toNat : Int) == 39)
              · have HR2 := Lib.hid (g_bare HR.out hl2 hgp.out (byte_not (n := 34) (by omega) e34) (byte_not (n := 39) (by omega) e39))
                clear HR hgp
                go_wp2_with fail
                refine (HE.out _ s[k] _ rfl).mono ?_; rintro en w2 ⟨T, rfl, HT, hT, hb2⟩
                have HS2 := Lib.hid (HS.out.below hb2)
                clear hb2
                go_wp2_with fail
                go_roundg (gk - 1)
                case measure => omega
                case rel => exact ⟨k + 1, L, T, mn, by go_num, by omega, by omega, rfl, by omega, rfl, by omega, HS2.out, .inr (.inl ⟨rfl, Lib.hid (by rw [HT.out]; exact HR2.out)⟩)⟩
              · have hb : s[k] = 39 := byte_is (n := 39) (by omega) e39
                have hbn : (s[k].toNat : Int) = 39 := by rw [hb]; rfl
                have hR2 := g_mark HR.out hl2 (.inr hb)
                rw [show s.data.toList[k] = 39 from hb] at hR2
                have HR2 := Lib.hid hR2
                have Hbn := Lib.hid hbn
                clear HR hgp hR2 hb hbn
                go_wp2_with fail
                refine (HE.out _ s[k] _ rfl).mono ?_; rintro en w2 ⟨T, rfl, HT, hT, hb2⟩
                have HS2 := Lib.hid (HS.out.below hb2)
                clear hb2
                go_wp2_with fail
                go_roundg (gk - 1)
                case measure => omega
                case rel => exact ⟨k + 1, L, ⟨#[]⟩, _, by go_num, by omega, by omega, rfl, Nat.zero_le _, rfl, by omega, HS2.out, .inr (.inr (.inr (.inl ⟨rfl, Hbn.out, HR2⟩)))⟩
            · have hb : s[k] = 34 := byte_is (n := 34) (by omega) e34
              have hbn : (s[k].toNat : Int) = 34 := by rw [hb]; rfl
              have hR2 := g_mark HR.out hl2 (.inl hb)
              rw [show s.data.toList[k] = 34 from hb] at hR2
              have HR2 := Lib.hid hR2
              have Hbn := Lib.hid hbn
              clear HR hgp hR2 hb hbn
              go_wp2_with fail
              refine (HE.out _ s[k] _ rfl).mono ?_; rintro en w2 ⟨T, rfl, HT, hT, hb2⟩
              have HS2 := Lib.hid (HS.out.below hb2)
              clear hb2
              go_wp2_with fail
              go_roundg (gk - 1)
              case measure => omega
              case rel => exact ⟨k + 1, L, ⟨#[]⟩, _, by go_num, by omega, by omega, rfl, Nat.zero_le _, rfl, by omega, HS2.out, .inr (.inr (.inl ⟨rfl, Hbn.out, HR2⟩))⟩
      · as_aux_lemma =>
          rcases gap_ways s[k] with hway | ⟨e32, e9, hgp⟩
          · rcases hway with ⟨e32, hgp⟩ | ⟨e32, e9, hgp⟩
            · have HR2 := Lib.hid (b_gap HR.out hl2 hgp.out)
              go_wp2_with (at_builtin; refine strs_push HS.out rfl _ _ rfl rfl W.data.toList _ _ _ rfl ?ha ?hl ?_)
              case ha => rw [text_mk]
              case hl => omega
              intro v3 w3 hS3
              have HS3 := Lib.hid hS3
              clear hS3
              go_wp2_with fail
              go_roundg (gk - 1)
              case measure => omega
              case rel => exact ⟨k + 1, L ++ [W.data.toList], W, mn, by go_num, by omega, by omega, rfl, by omega, rfl, by rw [List.length_append, List.length_singleton]; omega, HS3.out, .inl ⟨rfl, HR2⟩⟩
            · have HR2 := Lib.hid (b_gap HR.out hl2 hgp.out)
              go_wp2_with (at_builtin; refine strs_push HS.out rfl _ _ rfl rfl W.data.toList _ _ _ rfl ?ha ?hl ?_)
              case ha => rw [text_mk]
              case hl => omega
              intro v3 w3 hS3
              have HS3 := Lib.hid hS3
              clear hS3
              go_wp2_with fail
              go_roundg (gk - 1)
              case measure => omega
              case rel => exact ⟨k + 1, L ++ [W.data.toList], W, mn, by go_num, by omega, by omega, rfl, by omega, rfl, by rw [List.length_append, List.length_singleton]; omega, HS3.out, .inl ⟨rfl, HR2⟩⟩
          · have HR2 := Lib.hid (b_byte HR.out hl2 hgp.out)
            go_wp2_with fail
            refine (HE.out _ s[k] _ ?hh).mono ?_
            case hh => first | (with_reducible rfl) | (exact (eq_of_beq e92).symm) | (exact (eq_of_beq e32).symm) | (exact (eq_of_beq e9).symm) | rfl
            rintro en w2 ⟨T, rfl, HT, hT, hb2⟩
            have HS2 := Lib.hid (HS.out.below hb2)
            have hWT := size_one (W := W) hT
            clear hb2
            go_wp2_with fail
            go_roundg (gk - 1)
            case measure => omega
            case rel => exact ⟨k + 1, L, W ++ T, mn, by go_num, by omega, by omega, rfl, by omega, rfl, by omega, HS2.out, .inr (.inl ⟨rfl, Lib.hid (by rw [app_one HT.out]; exact HR2.out)⟩)⟩
      · as_aux_lemma =>
          cases em : ((s[k].toNat : Int) == 34)
          · have hnm := byte_not (n := 34) (by omega) em
            cases e92 : ((s[k].toNat : Int) == 92)
            · have HR2 := Lib.hid (m_byte HR.out hl2 hnm (.inl (byte_not (n := 92) (by omega) e92)))
              clear HR hnm
              have ne92 : ((s[k].toNat : Int) != 92) = true := by show (!((s[k].toNat : Int) == 92)) = _; rw [e92]; rfl
              obtain ⟨q, hq⟩ : ∃ q, decide ((s.size : Int) ≤ (k : Int) + 1) = q := ⟨_, rfl⟩
              rcases gap_ways s[k] with hway | ⟨e32, e9, -⟩
              · rcases hway with ⟨e32, -⟩ | ⟨e32, e9, -⟩
                · skip
                  as_aux_lemma =>
                    go_wp2_with fail
                    refine (HE.out _ s[k] _ ?hh).mono ?_
                    case hh => first | (with_reducible rfl) | (exact (eq_of_beq e92).symm) | (exact (eq_of_beq e32).symm) | (exact (eq_of_beq e9).symm) | rfl
                    rintro en w2 ⟨T, rfl, HT, hT, hb2⟩
                    have HS2 := Lib.hid (HS.out.below hb2)
                    have hWT := size_one (W := W) hT
                    clear hb2
                    go_wp2_with fail
                    go_roundg (gk - 1)
                    case measure => omega
                    case rel => exact ⟨k + 1, L, W ++ T, 34, by go_num, by omega, by omega, rfl, by omega, rfl, by omega, HS2.out, .inr (.inr (.inl ⟨rfl, rfl, Lib.hid (by rw [app_one HT.out]; exact HR2.out)⟩))⟩
                · skip
                  as_aux_lemma =>
                    go_wp2_with fail
                    refine (HE.out _ s[k] _ ?hh).mono ?_
                    case hh => first | (with_reducible rfl) | (exact (eq_of_beq e92).symm) | (exact (eq_of_beq e32).symm) | (exact (eq_of_beq e9).symm) | rfl
                    rintro en w2 ⟨T, rfl, HT, hT, hb2⟩
                    have HS2 := Lib.hid (HS.out.below hb2)
                    have hWT := size_one (W := W) hT
                    clear hb2
                    go_wp2_with fail
                    go_roundg (gk - 1)
                    case measure => omega
                    case rel => exact ⟨k + 1, L, W ++ T, 34, by go_num, by omega, by omega, rfl, by omega, rfl, by omega, HS2.out, .inr (.inr (.inl ⟨rfl, rfl, Lib.hid (by rw [app_one HT.out]; exact HR2.out)⟩))⟩
              · skip
                as_aux_lemma =>
                  go_wp2_with fail
                  refine (HE.out _ s[k] _ ?hh).mono ?_
                  case hh => first | (with_reducible rfl) | (exact (eq_of_beq e92).symm) | (exact (eq_of_beq e32).symm) | (exact (eq_of_beq e9).symm) | rfl
                  rintro en w2 ⟨T, rfl, HT, hT, hb2⟩
                  have HS2 := Lib.hid (HS.out.below hb2)
                  have hWT := size_one (W := W) hT
                  clear hb2
                  go_wp2_with fail
                  go_roundg (gk - 1)
                  case measure => omega
                  case rel => exact ⟨k + 1, L, W ++ T, 34, by go_num, by omega, by omega, rfl, by omega, rfl, by omega, HS2.out, .inr (.inr (.inl ⟨rfl, rfl, Lib.hid (by rw [app_one HT.out]; exact HR2.out)⟩))⟩
            · obtain ⟨e32, e9⟩ : ((s[k].toNat : Int) == 32) = false ∧ ((s[k].toNat : Int) == 9) = false := by rw [byte_is (n := 92) (by omega) e92]; exact ⟨rfl, rfl⟩
              have ne92 : ((s[k].toNat : Int) != 92) = false := by show (!((s[k].toNat : Int) == 92)) = _; rw [e92]; rfl
              by_cases hl : k + 1 < s.size
              case neg =>
                have HR2 := Lib.hid (m_byte HR.out hl2 hnm (.inr (.inl (by omega))))
                clear HR hnm
                have hlast : decide ((s.size : Int) ≤ (k : Int) + 1) = true := decide_eq_true (by omega)
                as_aux_lemma =>
                  go_wp2_with fail
                  refine (HE.out _ s[k] _ ?hh).mono ?_
                  case hh => first | (with_reducible rfl) | (exact (eq_of_beq e92).symm) | (exact (eq_of_beq e32).symm) | (exact (eq_of_beq e9).symm) | rfl
                  rintro en w2 ⟨T, rfl, HT, hT, hb2⟩
                  have HS2 := Lib.hid (HS.out.below hb2)
                  have hWT := size_one (W := W) hT
                  clear hb2
                  go_wp2_with fail
                  go_roundg (gk - 1)
                  case measure => omega
                  case rel => exact ⟨k + 1, L, W ++ T, 34, by go_num, by omega, by omega, rfl, by omega, rfl, by omega, HS2.out, .inr (.inr (.inl ⟨rfl, rfl, Lib.hid (by rw [app_one HT.out]; exact HR2.out)⟩))⟩
              case pos =>
                have hl3 : k + 1 < s.data.toList.length := by omega
                have h92 := byte_is (n := 92) (by omega) e92
                have hlast : decide ((s.size : Int) ≤ (k : Int) + 1) = false := decide_eq_false (by omega)
                cases e110 : ((s[k + 1].toNat : Int) == 110)
                case true =>
                  have h_ := byte_is (n := 110) (by omega) e110
                  have HR2 := Lib.hid (m_esc1 HR.out rfl hl3 h92 10 (.inl ⟨h_, rfl⟩))
                  clear HR hnm h92 h_
                  as_aux_lemma =>
                    go_wp2_with fail
                    refine (HE.out _ 10 _ ?hh).mono ?_
                    case hh => first | (with_reducible rfl) | (exact (eq_of_beq e92).symm) | (exact (eq_of_beq e32).symm) | (exact (eq_of_beq e9).symm) | rfl
                    rintro en w2 ⟨T, rfl, HT, hT, hb2⟩
                    have HS2 := Lib.hid (HS.out.below hb2)
                    have hWT := size_one (W := W) hT
                    clear hb2
                    go_wp2_with fail
                    go_roundg (gk - 1)
                    case measure => omega
                    case rel => exact ⟨k + 2, L, W ++ T, 34, by go_num, by omega, by omega, rfl, by omega, rfl, by omega, HS2.out, .inr (.inr (.inl ⟨rfl, rfl, Lib.hid (by rw [app_one HT.out]; exact HR2.out)⟩))⟩
                case false =>
                  cases e114 : ((s[k + 1].toNat : Int) == 114)
                  case true =>
                    have h_ := byte_is (n := 114) (by omega) e114
                    have HR2 := Lib.hid (m_esc1 HR.out rfl hl3 h92 13 (.inr (.inl ⟨h_, rfl⟩)))
                    clear HR hnm h92 h_
                    as_aux_lemma =>
                      go_wp2_with fail
                      refine (HE.out _ 13 _ ?hh).mono ?_
                      case hh => first | (with_reducible rfl) | (exact (eq_of_beq e92).symm) | (exact (eq_of_beq e32).symm) | (exact (eq_of_beq e9).symm) | rfl
                      rintro en w2 ⟨T, rfl, HT, hT, hb2⟩
                      have HS2 := Lib.hid (HS.out.below hb2)
                      have hWT := size_one (W := W) hT
                      clear hb2
                      go_wp2_with fail
                      go_roundg (gk - 1)
                      case measure => omega
                      case rel => exact ⟨k + 2, L, W ++ T, 34, by go_num, by omega, by omega, rfl, by omega, rfl, by omega, HS2.out, .inr (.inr (.inl ⟨rfl, rfl, Lib.hid (by rw [app_one HT.out]; exact HR2.out)⟩))⟩
                  case false =>
                    cases e116 : ((s[k + 1].toNat : Int) == 116)
                    case true =>
                      have h_ := byte_is (n := 116) (by omega) e116
                      have HR2 := Lib.hid (m_esc1 HR.out rfl hl3 h92 9 (.inr (.inr (.inl ⟨h_, rfl⟩))))
                      clear HR hnm h92 h_
                      as_aux_lemma =>
                        go_wp2_with fail
                        refine (HE.out _ 9 _ ?hh).mono ?_
                        case hh => first | (with_reducible rfl) | (exact (eq_of_beq e92).symm) | (exact (eq_of_beq e32).symm) | (exact (eq_of_beq e9).symm) | rfl
                        rintro en w2 ⟨T, rfl, HT, hT, hb2⟩
                        have HS2 := Lib.hid (HS.out.below hb2)
                        have hWT := size_one (W := W) hT
                        clear hb2
                        go_wp2_with fail
                        go_roundg (gk - 1)
                        case measure => omega
                        case rel => exact ⟨k + 2, L, W ++ T, 34, by go_num, by omega, by omega, rfl, by omega, rfl, by omega, HS2.out, .inr (.inr (.inl ⟨rfl, rfl, Lib.hid (by rw [app_one HT.out]; exact HR2.out)⟩))⟩
                    case false =>
                      cases e120 : ((s[k + 1].toNat : Int) == 120)
                      case false =>
                        have HR2 := Lib.hid (m_esc1 HR.out rfl hl3 h92 s[k + 1] (.inr (.inr (.inr (.inl ⟨⟨byte_not (n := 110) (by omega) e110, byte_not (n := 114) (by omega) e114, byte_not (n := 116) (by omega) e116, byte_not (n := 120) (by omega) e120⟩, rfl⟩)))))
                        clear HR hnm h92
                        as_aux_lemma =>
                          go_wp2_with fail
                          refine (HE.out _ s[k + 1] _ ?hh).mono ?_
                          case hh => first | (with_reducible rfl) | (exact (eq_of_beq e92).symm) | (exact (eq_of_beq e32).symm) | (exact (eq_of_beq e9).symm) | rfl
                          rintro en w2 ⟨T, rfl, HT, hT, hb2⟩
                          have HS2 := Lib.hid (HS.out.below hb2)
                          have hWT := size_one (W := W) hT
                          clear hb2
                          go_wp2_with fail
                          go_roundg (gk - 1)
                          case measure => omega
                          case rel => exact ⟨k + 2, L, W ++ T, 34, by go_num, by omega, by omega, rfl, by omega, rfl, by omega, HS2.out, .inr (.inr (.inl ⟨rfl, rfl, Lib.hid (by rw [app_one HT.out]; exact HR2.out)⟩))⟩
                      case true =>
                        have h120 := byte_is (n := 120) (by omega) e120
                        have hn120 : (s[k + 1].toNat : Int) = ((120 : UInt8).toNat : Int) := by rw [h120]; rfl
                        have Hn120 := Lib.hid hn120
                        clear hn120
                        by_cases h3 : k + 3 < s.size
                        case neg =>
                          have HR2 := Lib.hid (m_esc1 HR.out rfl hl3 h92 120 (.inr (.inr (.inr (.inr ⟨h120, rfl, .inl (by omega)⟩)))))
                          clear HR hnm h92 h120
                          as_aux_lemma =>
                            go_wp2_with fail
                            refine (HE.out _ 120 _ Hn120.out).mono ?_; rintro en w2 ⟨T, rfl, HT, hT, hb2⟩
                            have HS2 := Lib.hid (HS.out.below hb2)
                            have hWT := size_one (W := W) hT
                            clear hb2
                            go_wp2_with fail
                            go_roundg (gk - 1)
                            case measure => omega
                            case rel => exact ⟨k + 2, L, W ++ T, 34, by go_num, by omega, by omega, rfl, by omega, rfl, by omega, HS2.out, .inr (.inr (.inl ⟨rfl, rfl, Lib.hid (by rw [app_one HT.out]; exact HR2.out)⟩))⟩
                        case pos =>
                          have hl4 : k + 3 < s.data.toList.length := by omega
                          have hk2 : ((k : Int) + 1 + 1).toNat = k + 2 := by omega
                          have hk3 : ((k : Int) + 1 + 2).toNat = k + 3 := by omega
                          have H2 := Lib.hid (fun w => HH.out w s[k + 2])
                          have H3 := Lib.hid (fun w => HH.out w s[k + 3])
                          have HE1 := Lib.hid (fun (h : 16 ≤ hexN s[k + 2] ∨ 16 ≤ hexN s[k + 3]) => m_esc1 HR.out rfl hl3 h92 120 (.inr (.inr (.inr (.inr ⟨h120, rfl, .inr ⟨hl4, h⟩⟩)))))
                          have HE2 : Hid (hexN s[k + 2] < 16 → hexN s[k + 3] < 16 → wrun (.marked 34 (W.data.toList ++ [UInt8.ofNat (16 * hexN s[k + 2] + hexN s[k + 3])]) L) (s.data.toList.drop (k + 4)) = o) := Lib.hid (fun (h3 : hexN s[k + 2] < 16) (h4 : hexN s[k + 3] < 16) => m_esc2 HR.out rfl hl4 h92 h120 h3 h4)
                          clear HR hnm h92 h120
                          generalize hexN s[k + 2] = x2 at *
                          generalize hexN s[k + 3] = x3 at *
                          by_cases hx2 : (x2 : Int) < 16
                          case neg =>
                            have HR2 := Lib.hid (HE1.out (.inl (by omega)))
                            as_aux_lemma =>
                              go_wp2_with fail
                              refine (H2.out _).mono ?_; rintro en w5 ⟨rfl, rfl⟩
                              go_wp2_with fail
                              refine (HE.out _ 120 _ Hn120.out).mono ?_; rintro en w2 ⟨T, rfl, HT, hT, hb2⟩
                              have HS2 := Lib.hid (HS.out.below hb2)
                              have hWT := size_one (W := W) hT
                              clear hb2
                              go_wp2_with fail
                              go_roundg (gk - 1)
                              case measure => omega
                              case rel => exact ⟨k + 2, L, W ++ T, 34, by go_num, by omega, by omega, rfl, by omega, rfl, by omega, HS2.out, .inr (.inr (.inl ⟨rfl, rfl, Lib.hid (by rw [app_one HT.out]; exact HR2.out)⟩))⟩
                          case pos =>
                            by_cases hx3 : (x3 : Int) < 16
                            case neg =>
                              have HR2 := Lib.hid (HE1.out (.inr (by omega)))
                              as_aux_lemma =>
                                go_wp2_with fail
                                refine (H2.out _).mono ?_; rintro en w5 ⟨rfl, rfl⟩
                                go_wp2_with fail
                                refine (H3.out _).mono ?_; rintro en w5 ⟨rfl, rfl⟩
                                go_wp2_with fail
                                refine (HE.out _ 120 _ Hn120.out).mono ?_; rintro en w2 ⟨T, rfl, HT, hT, hb2⟩
                                have HS2 := Lib.hid (HS.out.below hb2)
                                have hWT := size_one (W := W) hT
                                clear hb2
                                go_wp2_with fail
                                go_roundg (gk - 1)
                                case measure => omega
                                case rel => exact ⟨k + 2, L, W ++ T, 34, by go_num, by omega, by omega, rfl, by omega, rfl, by omega, HS2.out, .inr (.inr (.inl ⟨rfl, rfl, Lib.hid (by rw [app_one HT.out]; exact HR2.out)⟩))⟩
                            case pos =>
                              have HR2 := Lib.hid (HE2.out (by omega) (by omega))
                              as_aux_lemma =>
                                go_wp2_with fail
                                refine (H2.out _).mono ?_; rintro en w5 ⟨rfl, rfl⟩
                                go_wp2_with fail
                                refine (H3.out _).mono ?_; rintro en w5 ⟨rfl, rfl⟩
                                go_wp2_with fail
                                have hbv : (UInt8.ofNat (16 * x2 + x3)).toNat = 16 * x2 + x3 := by rw [UInt8.toNat_ofNat']; omega
                                have wr1 : IntKind.i64.wrap ((k : Int) + 1 + 1) = (k : Int) + 1 + 1 := by rw [IntKind.wrap_i64]; omega
                                have wr2 : IntKind.i64.wrap ((k : Int) + 1 + 2) = (k : Int) + 1 + 2 := by rw [IntKind.wrap_i64]; omega
                                have wr3 : IntKind.u8.wrap (16 * (x2 : Int)) = 16 * (x2 : Int) := by rw [IntKind.wrap_u8]; omega
                                have wr4 : IntKind.u8.wrap (16 * (x2 : Int) + (x3 : Int)) = 16 * (x2 : Int) + (x3 : Int) := by rw [IntKind.wrap_u8]; omega
                                have ix1 : 0 ≤ (k : Int) + 1 + 1 ∧ (k : Int) + 1 + 1 < (s.size : Int) := by omega
                                have ix2 : 0 ≤ (k : Int) + 1 + 2 ∧ (k : Int) + 1 + 2 < (s.size : Int) := by omega
                                have Q2 : Hid (∀ w, Calls Tryz.prog 48 #[.int .u8 (s[k + 2].toNat : Int)] w fun e w' => e = .returned (.int .u8 (x2 : Int)) ∧ w' = w) := H2
                                have Q3 : Hid (∀ w, Calls Tryz.prog 48 #[.int .u8 (s[k + 3].toNat : Int)] w fun e w' => e = .returned (.int .u8 (x3 : Int)) ∧ w' = w) := H3
                                go_quiet ((go_at_call 48; first | (with_reducible exact Calls.quiet_of_same (Q2.out _)) | (with_reducible exact Calls.quiet_of_same (Q3.out _))))
                                go_wp2_with fail
                                refine (HE.out _ (UInt8.ofNat (16 * x2 + x3)) _ ?hh).mono ?_
                                case hh => rw [hbv]; first | rfl | (push_cast; omega) | omega
                                rintro en w2 ⟨T, rfl, HT, hT, hb2⟩
                                have HS2 := Lib.hid (HS.out.below ((below_drewN _ _).trans hb2))
                                have hWT := size_one (W := W) hT
                                clear hb2
                                go_wp2_with fail
                                go_roundg (gk - 1)
                                case measure => omega
                                case rel => exact ⟨k + 4, L, W ++ T, 34, by go_num, by omega, by omega, rfl, by omega, rfl, by omega, HS2.out, .inr (.inr (.inl ⟨rfl, rfl, Lib.hid (by rw [app_one HT.out]; exact HR2.out)⟩))⟩
          · obtain ⟨e32, e9⟩ : ((s[k].toNat : Int) == 32) = false ∧ ((s[k].toNat : Int) == 9) = false := by rw [byte_is (n := 34) (by omega) em]; exact ⟨rfl, rfl⟩
            have HR2 := Lib.hid (m_end HR.out hl2 (byte_is (n := 34) (by omega) em))
            clear HR
            as_aux_lemma =>
              go_wp2_with (at_builtin; refine strs_push HS.out rfl _ _ rfl rfl W.data.toList _ _ _ rfl ?ha ?hl ?_)
              case ha => rw [text_mk]
              case hl => omega
              intro v3 w3 hS3
              have HS3 := Lib.hid hS3
              clear hS3
              go_wp2_with fail
              go_roundg (gk - 1)
              case measure => omega
              case rel => exact ⟨k + 1, L ++ [W.data.toList], W, 34, by go_num, by omega, by omega, rfl, by omega, rfl, by rw [List.length_append, List.length_singleton]; omega, HS3.out, .inr (.inr (.inr (.inr ⟨rfl, HR2⟩)))⟩
      · as_aux_lemma =>
          cases em : ((s[k].toNat : Int) == 39)
          · have hnm := byte_not (n := 39) (by omega) em
            cases e92 : ((s[k].toNat : Int) == 92)
            · have HR2 := Lib.hid (m_byte HR.out hl2 hnm (.inl (byte_not (n := 92) (by omega) e92)))
              clear HR hnm
              have ne92 : ((s[k].toNat : Int) != 92) = true := by show (!((s[k].toNat : Int) == 92)) = _; rw [e92]; rfl
              obtain ⟨q, hq⟩ : ∃ q, decide ((s.size : Int) ≤ (k : Int) + 1) = q := ⟨_, rfl⟩
              rcases gap_ways s[k] with hway | ⟨e32, e9, -⟩
              · rcases hway with ⟨e32, -⟩ | ⟨e32, e9, -⟩
                · skip
                  as_aux_lemma =>
                    go_wp2_with fail
                    refine (HE.out _ s[k] _ ?hh).mono ?_
                    case hh => first | (with_reducible rfl) | (exact (eq_of_beq e92).symm) | (exact (eq_of_beq e32).symm) | (exact (eq_of_beq e9).symm) | rfl
                    rintro en w2 ⟨T, rfl, HT, hT, hb2⟩
                    have HS2 := Lib.hid (HS.out.below hb2)
                    have hWT := size_one (W := W) hT
                    clear hb2
                    go_wp2_with fail
                    go_roundg (gk - 1)
                    case measure => omega
                    case rel => exact ⟨k + 1, L, W ++ T, 39, by go_num, by omega, by omega, rfl, by omega, rfl, by omega, HS2.out, .inr (.inr (.inr (.inl ⟨rfl, rfl, Lib.hid (by rw [app_one HT.out]; exact HR2.out)⟩)))⟩
                · skip
                  as_aux_lemma =>
                    go_wp2_with fail
                    refine (HE.out _ s[k] _ ?hh).mono ?_
                    case hh => first | (with_reducible rfl) | (exact (eq_of_beq e92).symm) | (exact (eq_of_beq e32).symm) | (exact (eq_of_beq e9).symm) | rfl
                    rintro en w2 ⟨T, rfl, HT, hT, hb2⟩
                    have HS2 := Lib.hid (HS.out.below hb2)
                    have hWT := size_one (W := W) hT
                    clear hb2
                    go_wp2_with fail
                    go_roundg (gk - 1)
                    case measure => omega
                    case rel => exact ⟨k + 1, L, W ++ T, 39, by go_num, by omega, by omega, rfl, by omega, rfl, by omega, HS2.out, .inr (.inr (.inr (.inl ⟨rfl, rfl, Lib.hid (by rw [app_one HT.out]; exact HR2.out)⟩)))⟩
              · skip
                as_aux_lemma =>
                  go_wp2_with fail
                  refine (HE.out _ s[k] _ ?hh).mono ?_
                  case hh => first | (with_reducible rfl) | (exact (eq_of_beq e92).symm) | (exact (eq_of_beq e32).symm) | (exact (eq_of_beq e9).symm) | rfl
                  rintro en w2 ⟨T, rfl, HT, hT, hb2⟩
                  have HS2 := Lib.hid (HS.out.below hb2)
                  have hWT := size_one (W := W) hT
                  clear hb2
                  go_wp2_with fail
                  go_roundg (gk - 1)
                  case measure => omega
                  case rel => exact ⟨k + 1, L, W ++ T, 39, by go_num, by omega, by omega, rfl, by omega, rfl, by omega, HS2.out, .inr (.inr (.inr (.inl ⟨rfl, rfl, Lib.hid (by rw [app_one HT.out]; exact HR2.out)⟩)))⟩
            · obtain ⟨e32, e9⟩ : ((s[k].toNat : Int) == 32) = false ∧ ((s[k].toNat : Int) == 9) = false := by rw [byte_is (n := 92) (by omega) e92]; exact ⟨rfl, rfl⟩
              have ne92 : ((s[k].toNat : Int) != 92) = false := by show (!((s[k].toNat : Int) == 92)) = _; rw [e92]; rfl
              by_cases hl : k + 1 < s.size
              case neg =>
                have HR2 := Lib.hid (m_byte HR.out hl2 hnm (.inr (.inl (by omega))))
                clear HR hnm
                have hlast : decide ((s.size : Int) ≤ (k : Int) + 1) = true := decide_eq_true (by omega)
                as_aux_lemma =>
                  go_wp2_with fail
                  refine (HE.out _ s[k] _ ?hh).mono ?_
                  case hh => first | (with_reducible rfl) | (exact (eq_of_beq e92).symm) | (exact (eq_of_beq e32).symm) | (exact (eq_of_beq e9).symm) | rfl
                  rintro en w2 ⟨T, rfl, HT, hT, hb2⟩
                  have HS2 := Lib.hid (HS.out.below hb2)
                  have hWT := size_one (W := W) hT
                  clear hb2
                  go_wp2_with fail
                  go_roundg (gk - 1)
                  case measure => omega
                  case rel => exact ⟨k + 1, L, W ++ T, 39, by go_num, by omega, by omega, rfl, by omega, rfl, by omega, HS2.out, .inr (.inr (.inr (.inl ⟨rfl, rfl, Lib.hid (by rw [app_one HT.out]; exact HR2.out)⟩)))⟩
              case pos =>
                have hl3 : k + 1 < s.data.toList.length := by omega
                have h92 := byte_is (n := 92) (by omega) e92
                have hlast : decide ((s.size : Int) ≤ (k : Int) + 1) = false := decide_eq_false (by omega)
                cases n39 : ((s[k + 1].toNat : Int) == 39)
                · have ne39 : ((s[k + 1].toNat : Int) != 39) = true := by show (!((s[k + 1].toNat : Int) == 39)) = _; rw [n39]; rfl
                  have HR2 := Lib.hid (m_byte HR.out hl2 hnm (.inr (.inr ⟨rfl, fun _ => byte_not (n := 39) (by omega) n39⟩)))
                  clear HR hnm h92
                  as_aux_lemma =>
                    go_wp2_with fail
                    refine (HE.out _ s[k] _ ?hh).mono ?_
                    case hh => first | (with_reducible rfl) | (exact (eq_of_beq e92).symm) | (exact (eq_of_beq e32).symm) | (exact (eq_of_beq e9).symm) | rfl
                    rintro en w2 ⟨T, rfl, HT, hT, hb2⟩
                    have HS2 := Lib.hid (HS.out.below hb2)
                    have hWT := size_one (W := W) hT
                    clear hb2
                    go_wp2_with fail
                    go_roundg (gk - 1)
                    case measure => omega
                    case rel => exact ⟨k + 1, L, W ++ T, 39, by go_num, by omega, by omega, rfl, by omega, rfl, by omega, HS2.out, .inr (.inr (.inr (.inl ⟨rfl, rfl, Lib.hid (by rw [app_one HT.out]; exact HR2.out)⟩)))⟩
                · have ne39 : ((s[k + 1].toNat : Int) != 39) = false := by show (!((s[k + 1].toNat : Int) == 39)) = _; rw [n39]; rfl
                  have h39 := byte_is (n := 39) (by omega) n39
                  have HR2 := Lib.hid (m_apo HR.out rfl hl3 h92 h39)
                  have Hn := Lib.hid (show (s[k + 1].toNat : Int) = ((39 : UInt8).toNat : Int) by rw [h39]; rfl)
                  clear HR hnm h92 h39
                  as_aux_lemma =>
                    go_wp2_with fail
                    refine (HE.out _ 39 _ Hn.out).mono ?_; rintro en w2 ⟨T, rfl, HT, hT, hb2⟩
                    have HS2 := Lib.hid (HS.out.below hb2)
                    have hWT := size_one (W := W) hT
                    clear hb2
                    go_wp2_with fail
                    go_roundg (gk - 1)
                    case measure => omega
                    case rel => exact ⟨k + 2, L, W ++ T, 39, by go_num, by omega, by omega, rfl, by omega, rfl, by omega, HS2.out, .inr (.inr (.inr (.inl ⟨rfl, rfl, Lib.hid (by rw [app_one HT.out]; exact HR2.out)⟩)))⟩
          · obtain ⟨e32, e9⟩ : ((s[k].toNat : Int) == 32) = false ∧ ((s[k].toNat : Int) == 9) = false := by rw [byte_is (n := 39) (by omega) em]; exact ⟨rfl, rfl⟩
            have HR2 := Lib.hid (m_end HR.out hl2 (byte_is (n := 39) (by omega) em))
            clear HR
            as_aux_lemma =>
              go_wp2_with (at_builtin; refine strs_push HS.out rfl _ _ rfl rfl W.data.toList _ _ _ rfl ?ha ?hl ?_)
              case ha => rw [text_mk]
              case hl => omega
              intro v3 w3 hS3
              have HS3 := Lib.hid hS3
              clear hS3
              go_wp2_with fail
              go_roundg (gk - 1)
              case measure => omega
              case rel => exact ⟨k + 1, L ++ [W.data.toList], W, 39, by go_num, by omega, by omega, rfl, by omega, rfl, by rw [List.length_append, List.length_singleton]; omega, HS3.out, .inr (.inr (.inr (.inr ⟨rfl, HR2⟩)))⟩
      · rcases gap_ways s[k] with hway | ⟨e32, e9, hgp⟩
        · rcases hway with ⟨e32, hgp⟩ | ⟨e32, e9, hgp⟩
          · have HR2 := Lib.hid (a_gap HR.out hl2 hgp.out)
            go_wp2_with fail
            go_roundg (gk - 1)
            case measure => omega
            case rel => exact ⟨k + 1, L, W, mn, by go_num, by omega, by omega, rfl, by omega, rfl, by omega, HS.out, .inl ⟨rfl, HR2⟩⟩
          · have HR2 := Lib.hid (a_gap HR.out hl2 hgp.out)
            go_wp2_with fail
            go_roundg (gk - 1)
            case measure => omega
            case rel => exact ⟨k + 1, L, W, mn, by go_num, by omega, by omega, rfl, by omega, rfl, by omega, HS.out, .inl ⟨rfl, HR2⟩⟩
        · have HR2 := Lib.hid (a_bad HR.out hl2 hgp.out)
          go_wp2_with fail
          go_ret2
          exact words_no HS.out.bel HR2.out
    case neg =>
      obtain rfl : k = s.size := by omega
      have hd : s.data.toList.drop s.size = [] := List.drop_of_length_le (by omega)
      rcases hat with ⟨rfl, HR⟩ | ⟨rfl, HR⟩ | ⟨rfl, rfl, HR⟩ | ⟨rfl, rfl, HR⟩ | ⟨rfl, HR⟩
      · as_aux_lemma =>
          have HC : Hid (check L = o) := Lib.hid (by have h := HR.out; rw [hd, w_gap0] at h; exact h)
          clear HR hd
          obtain ⟨a5, c5, hv5, hc51, hc52, hin⟩ := (Lie.of HS.out).facts
          injection hv5 with hv5 _ hv6
          subst hv5 hv6
          have HI := Lib.hid hin
          clear hin
          by_cases h64 : 64 < L.length
          case pos =>
            have HZ : Hid (o = none) := Lib.hid (by rw [← HC.out]; unfold check; rw [if_neg]; simp only [Bool.and_eq_true, decide_eq_true_eq]; omega)
            go_wp2_with fail
            go_ret2
            exact words_no HS.out.bel HZ.out
          case neg =>
            have hl64 : L.length ≤ 64 := by omega
            clear h64
            go_wp2_with fail
            go_loopw [14, 176] (fun _ vi wq => ∃ j : Nat, vi = .int .i64 j ∧ j ≤ L.length ∧ wq = wr ∧ Hid ((L.take j).all fine = true)) (fun _ vi _ => L.length - (intOf vi).toNat)
            case atStart => exact ⟨0, rfl, by omega, rfl, Lib.hid rfl⟩
            case round =>
              obtain ⟨j, rfl, hj, rfl, HA⟩ := hrel
              by_cases hjl : j < L.length
              case pos =>
                obtain ⟨g5, rfl, hcell⟩ := HI.out j hjl
                have hsz := size_of L[j]
                have HG : Hid (L[j].length ≤ 4096 → (L.take (j + 1)).all fine = true) := Lib.hid (fun h => all_succ hjl HA.out h)
                have HB : Hid (4096 < L[j].length → check L = none) := Lib.hid (fun h => check_long hjl h)
                generalize (⟨L[j].toArray⟩ : ByteArray) = S at *
                generalize L[j] = t at *
                by_cases hbig : 4096 < S.size
                case pos =>
                  have HZ : Hid (o = none) := Lib.hid (HC.out.symm.trans (HB.out (by omega)))
                  go_wp2_with fail
                  go_ret2
                  exact words_no HS.out.bel HZ.out
                case neg =>
                  have HG2 := Lib.hid (HG.out (by omega))
                  go_wp2_with fail
                  go_roundw
                  case rel => exact ⟨j + 1, by go_num, by omega, by first | rfl | trivial, HG2⟩
                  case measure => simp [intOf]; omega
              case neg =>
                obtain rfl : j = L.length := by omega
                have HZ : Hid (o = some L) := Lib.hid (by rw [← HC.out]; exact check_all hl64 (by have h := HA.out; rwa [List.take_length] at h))
                go_wp2_with fail
                go_ret2
                exact words_yes HZ.out HS.out
      · as_aux_lemma =>
          have HC : Hid (check (L ++ [W.data.toList]) = o) := Lib.hid (by have h := HR.out; rw [hd, w_bare0] at h; exact h)
          clear HR hd
          go_wp2_with (at_builtin; refine strs_push HS.out rfl _ _ rfl rfl W.data.toList _ _ _ rfl ?ha ?hl ?_)
          case ha => rw [text_mk]
          case hl => omega
          intro v3 w3 hS3
          have HS3 := Lib.hid hS3
          obtain ⟨a3, cp3, rfl, hcp3, hcm3⟩ := hS3.slice
          have hn3 : (cellsS (L ++ [W.data.toList])).length = (L ++ [W.data.toList]).length := cellsS_len _
          rw [hn3] at HS3 hcp3 ⊢
          clear hS3 hn3
          generalize L ++ [W.data.toList] = M at *
          obtain ⟨a5, c5, hv5, hc51, hc52, hin⟩ := (Lie.of HS3.out).facts
          injection hv5 with hv5 _ hv6
          subst hv5 hv6
          have HI := Lib.hid hin
          clear hin
          by_cases h64 : 64 < M.length
          case pos =>
            have HZ : Hid (o = none) := Lib.hid (by rw [← HC.out]; unfold check; rw [if_neg]; simp only [Bool.and_eq_true, decide_eq_true_eq]; omega)
            go_wp2_with fail
            go_ret2
            exact words_no HS3.out.bel HZ.out
          case neg =>
            have hl64 : M.length ≤ 64 := by omega
            clear h64
            go_wp2_with fail
            go_loopw [14, 176] (fun _ vi wq => ∃ j : Nat, vi = .int .i64 j ∧ j ≤ M.length ∧ wq = w3 ∧ Hid ((M.take j).all fine = true)) (fun _ vi _ => M.length - (intOf vi).toNat)
            case atStart => exact ⟨0, rfl, by omega, rfl, Lib.hid rfl⟩
            case round =>
              obtain ⟨j, rfl, hj, rfl, HA⟩ := hrel
              by_cases hjl : j < M.length
              case pos =>
                obtain ⟨g5, rfl, hcell⟩ := HI.out j hjl
                have hsz := size_of M[j]
                have HG : Hid (M[j].length ≤ 4096 → (M.take (j + 1)).all fine = true) := Lib.hid (fun h => all_succ hjl HA.out h)
                have HB : Hid (4096 < M[j].length → check M = none) := Lib.hid (fun h => check_long hjl h)
                generalize (⟨M[j].toArray⟩ : ByteArray) = S at *
                generalize M[j] = t at *
                by_cases hbig : 4096 < S.size
                case pos =>
                  have HZ : Hid (o = none) := Lib.hid (HC.out.symm.trans (HB.out (by omega)))
                  go_wp2_with fail
                  go_ret2
                  exact words_no HS3.out.bel HZ.out
                case neg =>
                  have HG2 := Lib.hid (HG.out (by omega))
                  go_wp2_with fail
                  go_roundw
                  case rel => exact ⟨j + 1, by go_num, by omega, by first | rfl | trivial, HG2⟩
                  case measure => simp [intOf]; omega
              case neg =>
                obtain rfl : j = M.length := by omega
                have HZ : Hid (o = some M) := Lib.hid (by rw [← HC.out]; exact check_all hl64 (by have h := HA.out; rwa [List.take_length] at h))
                go_wp2_with fail
                go_ret2
                exact words_yes HZ.out HS3.out
      · have HZ : Hid (o = none) := Lib.hid (by have h := HR.out; rw [hd, w_m0] at h; exact h.symm)
        clear HR hd
        go_wp2_with fail
        go_ret2
        exact words_no HS.out.bel HZ.out
      · have HZ : Hid (o = none) := Lib.hid (by have h := HR.out; rw [hd, w_m0] at h; exact h.symm)
        clear HR hd
        go_wp2_with fail
        go_ret2
        exact words_no HS.out.bel HZ.out
      · as_aux_lemma =>
          have HC : Hid (check L = o) := Lib.hid (by have h := HR.out; rw [hd, w_after0] at h; exact h)
          clear HR hd
          obtain ⟨a5, c5, hv5, hc51, hc52, hin⟩ := (Lie.of HS.out).facts
          injection hv5 with hv5 _ hv6
          subst hv5 hv6
          have HI := Lib.hid hin
          clear hin
          by_cases h64 : 64 < L.length
          case pos =>
            have HZ : Hid (o = none) := Lib.hid (by rw [← HC.out]; unfold check; rw [if_neg]; simp only [Bool.and_eq_true, decide_eq_true_eq]; omega)
            go_wp2_with fail
            go_ret2
            exact words_no HS.out.bel HZ.out
          case neg =>
            have hl64 : L.length ≤ 64 := by omega
            clear h64
            go_wp2_with fail
            go_loopw [14, 176] (fun _ vi wq => ∃ j : Nat, vi = .int .i64 j ∧ j ≤ L.length ∧ wq = wr ∧ Hid ((L.take j).all fine = true)) (fun _ vi _ => L.length - (intOf vi).toNat)
            case atStart => exact ⟨0, rfl, by omega, rfl, Lib.hid rfl⟩
            case round =>
              obtain ⟨j, rfl, hj, rfl, HA⟩ := hrel
              by_cases hjl : j < L.length
              case pos =>
                obtain ⟨g5, rfl, hcell⟩ := HI.out j hjl
                have hsz := size_of L[j]
                have HG : Hid (L[j].length ≤ 4096 → (L.take (j + 1)).all fine = true) := Lib.hid (fun h => all_succ hjl HA.out h)
                have HB : Hid (4096 < L[j].length → check L = none) := Lib.hid (fun h => check_long hjl h)
                generalize (⟨L[j].toArray⟩ : ByteArray) = S at *
                generalize L[j] = t at *
                by_cases hbig : 4096 < S.size
                case pos =>
                  have HZ : Hid (o = none) := Lib.hid (HC.out.symm.trans (HB.out (by omega)))
                  go_wp2_with fail
                  go_ret2
                  exact words_no HS.out.bel HZ.out
                case neg =>
                  have HG2 := Lib.hid (HG.out (by omega))
                  go_wp2_with fail
                  go_roundw
                  case rel => exact ⟨j + 1, by go_num, by omega, by first | rfl | trivial, HG2⟩
                  case measure => simp [intOf]; omega
              case neg =>
                obtain rfl : j = L.length := by omega
                have HZ : Hid (o = some L) := Lib.hid (by rw [← HC.out]; exact check_all hl64 (by have h := HA.out; rwa [List.take_length] at h))
                go_wp2_with fail
                go_ret2
                exact words_yes HZ.out HS.out
end Go.Proofs.YtenhgjpoigkdgaaGreatDoor.Ln
