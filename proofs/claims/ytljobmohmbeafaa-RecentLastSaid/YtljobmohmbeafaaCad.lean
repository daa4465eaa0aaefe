/- RecentLast. No condition. -/
import Derived.Test.YtljobmohmbeafaaCac
namespace Go.Proofs.Ytljobmohmbeafaa.Ca
open Go.ChangeShapes Go.WideShapes Go.ChangeAt Go.RowKit Go.Maps Go.WideMaps
theorem dropK_app (k : ByteArray) (A B : List ByteArray) : dropK k (A ++ B) = dropK k A ++ dropK k B := List.filter_append ..
/-- Where a key that is kept stands behind the touch. -/
theorem touch_at {k : ByteArray} {K : List ByteArray} {j : Nat} (hj : j < K.length) (hne : K[j] ≠ k) : ∃ h : (dropK k (K.take j)).length < (touchK k K).length, (touchK k K)[(dropK k (K.take j)).length]'h = K[j] := by
  have e1 : K = K.take j ++ (K[j] :: K.drop (j + 1)) := by rw [List.getElem_cons_drop, List.take_append_drop]
  have e2 : dropK k K = dropK k (K.take j) ++ (K[j] :: dropK k (K.drop (j + 1))) := by
    have h := congrArg (dropK k) e1
    rw [dropK_app] at h
    rw [h]
    congr 1
    show List.filter _ _ = _
    rw [List.filter_cons_of_pos (by simpa using hne)]; rfl
  have e3 : touchK k K = dropK k (K.take j) ++ (K[j] :: (dropK k (K.drop (j + 1)) ++ [k])) := by
    unfold touchK
    rw [e2, List.append_assoc, List.cons_append]
  have hlt : (dropK k (K.take j)).length < (touchK k K).length := by rw [e3]; simp
  refine ⟨hlt, ?_⟩
  have : (touchK k K)[(dropK k (K.take j)).length]? = some K[j] := by rw [e3]; simp
  rw [List.getElem?_eq_getElem hlt] at this
  exact Option.some.inj this
theorem touch_len (k : ByteArray) (K : List ByteArray) : (touchK k K).length = (dropK k K).length + 1 := by unfold touchK; simp
theorem touch_last (k : ByteArray) (K : List ByteArray) (m : Nat) (hm : m < (touchK k K).length) (e : (dropK k K).length = m) : (touchK k K)[m] = k := by
  have h : (touchK k K)[m]? = some k := by
    unfold touchK
    subst e
    simp
  rw [List.getElem?_eq_getElem hm] at h
  exact Option.some.inj h
theorem drop_step {K : List ByteArray} (hn : K.Nodup) {i : Nat} (hi : i < K.length) : dropK K[i] (K.drop i) = K.drop (i + 1) ∧ inK K[i] (K.drop i) = true := by
  have e : K.drop i = K[i] :: K.drop (i + 1) := (List.getElem_cons_drop hi).symm
  have hd : (K.drop i).Nodup := hn.sublist (List.drop_sublist i K)
  refine ⟨?_, inK_iff.2 (by rw [e]; exact List.mem_cons_self ..)⟩
  rw [e] at hd ⊢
  have hx := (List.nodup_cons.1 hd).1
  show List.filter _ _ = _
  rw [List.filter_cons_of_neg (by simp)]
  exact dropK_none hx
theorem old_step {K : List ByteArray} (hn : K.Nodup) {i m : Nat} (hm : m + 1 = K.length) (hi : i < m) : oldK (K[m]'(by omega)) (K.drop i) = some (K[i]'(by omega)) := by
  have e : K.drop i = K[i]'(by omega) :: K.drop (i + 1) := (List.getElem_cons_drop (by omega)).symm
  have hne : K[i]'(by omega) ≠ K[m]'(by omega) := fun h => by have := (List.getElem_inj hn).1 h; omega
  rw [e]
  show List.find? _ _ = _
  rw [List.find?_cons_of_pos (by simpa using hne)]
theorem old_stop {K : List ByteArray} {m : Nat} (hm : m + 1 = K.length) : oldK (K[m]'(by omega)) (K.drop m) = none := by
  have e : K.drop m = K[m]'(by omega) :: K.drop (m + 1) := (List.getElem_cons_drop (by omega)).symm
  rw [e, List.drop_eq_nil_of_le (by omega)]
  simp [oldK]
set_option maxHeartbeats 8000000 in
set_option maxRecDepth 100000 in
theorem recentLast (xa : Option Addr) (xc : Nat) (l : List ByteArray) (w : World) (hI : InO w xa l) (hS : ∀ i (h : i < l.length), l[i].size ≤ maxLen) :
    Calls Try.prog 4 #[.slice xa l.length xc] w fun e w' => e = .returned (.bool true) ∧ Below w.heap.size w w' := by
  have HI := Lib.hid hI
  have HSZ := Lib.hid hS
  clear hI hS
  have HA := Lib.hid (recentAlive w)
  go_enter Try.func4, Try.ntmps4
  go_wp2_with fail
  refine HA.out.mono ?_; rintro en w2 ⟨rfl, hb2⟩
  have HB2 := Lib.hid hb2
  have HI2 := Lib.hid (HI.out.below (Nat.le_refl _) hb2)
  clear hb2 HA HI
  by_cases hl : 60 < l.length
  · have hlc : (60 : Int) < (l.length : Int) := by omega
    go_wp2_with fail
    go_ret
    exact ⟨rfl, HB2.out⟩
  have hlc : ¬ (60 : Int) < (l.length : Int) := by omega
  have HN := Lib.hid (rc_new w2 w2 (Below.refl _ _))
  go_wp2_with fail
  refine HN.out.mono ?_; rintro en w3 ⟨T, rfl, h3⟩
  have H3 := Lib.hid h3
  clear h3 HN
  go_wp2_with fail
  go_loopg [5, 6, 7, 8, 10, 24] (l.length + 1) (fun g _ _ _ _ _ vi wr => ∃ (i : Nat) (K : List ByteArray), vi = .int .i64 i ∧ i ≤ l.length ∧ l.length - i ≤ g ∧ K.length ≤ i ∧ Hid (K.Nodup) ∧ Hid (∀ x ∈ K, x.size ≤ maxLen) ∧ Hid (RC w2 T wr K none []))
  case atStart => exact ⟨0, [], rfl, by omega, by omega, Nat.le_refl _, Lib.hid List.nodup_nil, Lib.hid (fun _ h => by cases h), H3⟩
  case round =>
    obtain ⟨i, K, rfl, hi, hg, hK, HND, HSK, HR1⟩ := hrel
    clear H3
    have HAl := Lib.hid (HR1.out.all (by omega))
    by_cases hil : i < l.length
    case pos =>
      have hic : (i : Int) < (l.length : Int) := by omega
      obtain ⟨b, o, rfl, hlt, hc⟩ := HI2.out (by omega)
      have c0 := (HR1.out.below.cell (p := ⟨b, o + i, none⟩) hlt).trans (hc i hil)
      have HS := Lib.hid (HSZ.out i hil)
      clear hc hlt
      generalize l[i] = s at *
      go_wp2_with fail
      refine HAl.out.mono ?_; rintro en w5 ⟨v6, rfl, hR5⟩
      obtain ⟨a6, c6, rfl, -, -, hI6, hO6⟩ := hR5.slice
      have h5 := HR1.out.swap hR5.bel hI6 hO6
      have HX := Lib.hid (h5.touch (Below.refl _ _) s HS.out (by omega))
      clear hR5 hI6 hO6 h5 HAl c0
      have HND2 : Hid ((touchK s K).Nodup) := Lib.hid (touchK_nodup HND.out)
      have HSK2 : Hid (∀ x ∈ touchK s K, x.size ≤ maxLen) := Lib.hid (fun x hx => by
        rcases List.mem_append.1 hx with h | h
        · exact HSK.out x (mem_dropK.1 h).1
        · rw [List.mem_singleton.1 h]; exact HS.out)
      have HTA : Hid (∀ (j : Nat) (hj : j < K.length), K[j] ≠ s → ∃ h : (dropK s (K.take j)).length < (touchK s K).length, (touchK s K)[(dropK s (K.take j)).length]'h = K[j]) := Lib.hid (fun j hj hne => touch_at hj hne)
      have hml : (dropK s K).length ≤ 60 := by have := dropK_le s K; omega
      have hlen := touch_len s K
      have hmk := dropK_le s K
      have HTL := Lib.hid (touch_last s K)
      generalize inK s K = b2 at *
      generalize touchK s K = K2 at *
      generalize (dropK s K).length = m at *
      go_wp2_with fail
      refine HX.out.mono ?_; rintro en w6 ⟨rfl, h6, -⟩
      have HA6 := Lib.hid (h6.all (by omega))
      have H6 := Lib.hid h6
      clear h6 HX
      go_wp2_with fail
      refine HA6.out.mono ?_; rintro en w7 ⟨v7, rfl, hR7⟩
      have HR7 := Lib.hid (H6.out.bel hR7.bel)
      obtain ⟨a7, c7, rfl, -, -, hI7, -⟩ := hR7.slice
      have HI7 := Lib.hid hI7
      obtain ⟨g7, rfl, d7⟩ := hI7 m (by omega)
      rw [HTL.out m (by omega) rfl] at d7
      clear hR7 hI7 HA6 H6
      have hz : ((K2.length : Int) == 0) = false := by rw [beq_eq_false_iff_ne]; omega
      have hsub : (K2.length : Int) - 1 = (m : Int) := by omega
      have hmlt : (m : Int) < (K2.length : Int) := by omega
      go_wp2_with fail
      have HR7l := Lib.hid HR7.out.list
      obtain ⟨Go, hGo⟩ : ∃ Go, gk = Go := ⟨_, rfl⟩
      have HGo := Lib.hid hGo
      clear hGo
      clear d7 hz hsub hmlt
      go_loopg [8, 10, 50] (K.length + 1) (fun g v8 _ vi wr => ∃ j : Nat, vi = .int .i64 j ∧ j ≤ K.length ∧ K.length - j ≤ g ∧ v8 = .int .i64 ((dropK s (K.take j)).length : Nat) ∧ w7 = wr)
      case atStart => exact ⟨0, rfl, by omega, by omega, rfl, rfl⟩
      case round =>
        obtain ⟨j, rfl, hj, hg2, rfl, rfl⟩ := hrel
        by_cases hjl : j < K.length
        case pos =>
          have hjc : (j : Int) < (K.length : Int) := by omega
          obtain ⟨g6, rfl, d6⟩ := HR7l.out j hjl
          have HE := Lib.hid (dropK_take (k := s) hjl)
          have hle : (dropK s (K.take j)).length ≤ j := Nat.le_trans (dropK_le _ _) (List.length_take_le _ _)
          by_cases hq : K[j] = s
          case pos =>
            have hqe := beq_eq hq
            have HZ : Hid ((dropK s (K.take j)).length = (dropK s (K.take (j + 1))).length) := Lib.hid (by rw [HE.out, if_pos hq, List.append_nil])
            clear hq
            generalize K[j] = q at *
            generalize (dropK s (K.take j)).length = p at *
            go_wp2_with fail
            go_roundg (gk - 1)
            case measure => omega
            case rel => exact ⟨j + 1, by go_num, by omega, by omega, by rw [HZ.out], rfl⟩
          case neg =>
            have hqe := beq_ne hq
            obtain ⟨hp, hpe⟩ := HTA.out j hjl hq
            have HZ : Hid ((dropK s (K.take j)).length + 1 = (dropK s (K.take (j + 1))).length) := Lib.hid (by rw [HE.out, if_neg hq, List.length_append]; rfl)
            have d7 : w7.cell? ⟨g7, (dropK s (K.take j)).length, none⟩ = some (.string K[j]) := by
              obtain ⟨g', e', hc⟩ := HI7.out _ hp
              cases e'
              rw [hpe] at hc
              exact hc
            clear hq hpe
            generalize K[j] = q at *
            generalize (dropK s (K.take j)).length = p at *
            have hpc : ¬ (K2.length : Int) ≤ (p : Int) := by omega
            have hpl : (p : Int) < (K2.length : Int) := by omega
            have hpd : decide ((K2.length : Int) ≤ (p : Int)) = false := decide_eq_false hpc
            go_wp2_with fail
            go_roundg (gk - 1)
            case measure => omega
            case rel => exact ⟨j + 1, by go_num, by omega, by omega, by rw [← HZ.out]; go_num, rfl⟩
        case neg =>
          have hjc : ¬ ((j : Int) < (K.length : Int)) := by omega
          have HNx := Lib.hid HR7.out.nolist
          have hgo := HGo.out
          go_wp2_with fail
          go_roundg (Go - 1)
          case measure => omega
          case rel => exact ⟨i + 1, K2, by go_num, by omega, by omega, by omega, HND2, HSK2, HNx⟩
    case neg =>
      have hic : ¬ ((i : Int) < (l.length : Int)) := by omega
      go_wp2_with fail
      refine HAl.out.mono ?_; rintro en w5 ⟨v6, rfl, hR5⟩
      obtain ⟨a6, c6, rfl, -, -, hI6, hO6⟩ := hR5.slice
      have H5 := Lib.hid (HR1.out.swap hR5.bel hI6 hO6)
      clear hR5 hI6 hO6 HAl HR1
      go_wp2_with fail
      go_loopg [12, 13, 14, 15, 77] (K.length + 1) (fun g _ _ _ _ vi wr => ∃ j : Nat, vi = .int .i64 j ∧ j ≤ K.length ∧ K.length - j ≤ g ∧ Hid (RC w2 T wr (K.drop j) a6 K))
      case atStart => exact ⟨0, rfl, by omega, by omega, Lib.hid (by rw [List.drop_zero]; exact H5.out)⟩
      case round =>
        obtain ⟨j, rfl, hj, hg2, HR2⟩ := hrel
        by_cases hjl : j < K.length
        case pos =>
          have hjc : (j : Int) < (K.length : Int) := by omega
          obtain ⟨g6, rfl, d6⟩ := HR2.out.list j hjl
          obtain ⟨m, hm⟩ : ∃ m, m + 1 = K.length := ⟨K.length - 1, by omega⟩
          have hml : m < K.length := by omega
          obtain ⟨g6', e6', d6m⟩ := HR2.out.list m hml
          cases e6'
          have hmlt : (m : Int) < (K.length : Int) := by omega
          have hsub : (K.length : Int) - 1 = (m : Int) := by omega
          obtain ⟨hds, hin⟩ := drop_step HND.out hjl
          have HDr := Lib.hid (HR2.out.drop (Below.refl _ _) K[j] (HSK.out _ (List.getElem_mem hjl)))
          rw [hds, hin] at HDr
          clear hds hin
          by_cases hjm : j < m
          case pos =>
            have hjmc : (j : Int) < (m : Int) := by omega
            have HO := Lib.hid (HR2.out.oldest (K[m]'hml) (some K[j]) (Lib.hid (old_step HND.out hm hjm)))
            generalize K[j] = q at *
            generalize K[m]'hml = z at *
            go_wp2_with fail
            refine HO.out.mono ?_; rintro en w6 ⟨rfl, rfl⟩
            go_wp2_with fail
            refine HDr.out.mono ?_; rintro en w6 ⟨rfl, h6, -⟩
            have H6 := Lib.hid h6
            clear h6 HDr HO d6 d6m
            go_wp2_with fail
            go_roundg (gk - 1)
            case measure => omega
            case rel => exact ⟨j + 1, by go_num, by omega, by omega, H6⟩
          case neg =>
            obtain rfl : j = m := by omega
            have hjmc : ¬ (j : Int) < (j : Int) := by omega
            have HO := Lib.hid (HR2.out.oldest K[j] none (Lib.hid (old_stop hm)))
            generalize K[j] = q at *
            go_wp2_with fail
            refine HO.out.mono ?_; rintro en w6 ⟨rfl, rfl⟩
            go_wp2_with fail
            refine HDr.out.mono ?_; rintro en w6 ⟨rfl, h6, -⟩
            have H6 := Lib.hid h6
            clear h6 HDr HO d6 d6m
            go_wp2_with fail
            go_roundg (gk - 1)
            case measure => omega
            case rel => exact ⟨j + 1, by go_num, by omega, by omega, H6⟩
        case neg =>
          have hjc : ¬ ((j : Int) < (K.length : Int)) := by omega
          obtain rfl : j = K.length := by omega
          rw [List.drop_length] at HR2
          have HL := Lib.hid HR2.out.len
          have HBe := Lib.hid (HB2.out.trans (HR2.out.below.mono HB2.out.size))
          go_wp2_with fail
          refine HL.out.mono ?_; rintro en w6 ⟨rfl, rfl⟩
          go_wp2_with fail
          go_ret
          exact ⟨rfl, HBe.out⟩
end Go.Proofs.Ytljobmohmbeafaa.Ca
