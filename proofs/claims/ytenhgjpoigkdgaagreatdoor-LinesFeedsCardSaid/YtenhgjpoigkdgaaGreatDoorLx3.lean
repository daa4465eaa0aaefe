/- Package lines' bare. No condition but the tables. -/
import Derived.Test.YtenhgjpoigkdgaaGreatDoorLx2
import Derived.Deep.QuietTactic
import Derived.BigQuiet
namespace Go.Proofs.YtenhgjpoigkdgaaGreatDoor.Ln
open Go.ChangeShapes Go.WideShapes Go.ChangeAt Go.RowKit
open Go.Proofs.YtenhgjpoigkdgaaGreatDoor.Lw

set_option maxHeartbeats 4000000 in
set_option maxRecDepth 100000 in
theorem bare_calls (s : ByteArray) (hs : s.size ≤ 1000000) (w : World) (hc : LCtx w) : Calls Tryz.prog 36 #[.string s] w (Word 39 s w) := by
  have HC := Lib.hid hc
  clear hc
  go_enter Tryz.func36, Tryz.ntmps36
  go_wp2_with fail
  go_loopg [0, 5, 6] s.size (fun g st b _ wr => ∃ (t : ByteArray) (v : List UInt8), st = .string t ∧ t.size ≤ g ∧ BufB w wr b v ∧ v.length + t.size ≤ s.size ∧ Hid (∀ out, wrun (.marked 39 [] out) s.data.toList = wrun (.marked 39 v out) t.data.toList))
  case atStart => exact ⟨s, [], rfl, Nat.le_refl _, Row.nil w, by simp, fun _ => rfl⟩
  case round =>
    obtain ⟨t, v, rfl, htg, hB, hvt, HR⟩ := hrel
    have HB := Lib.hid hB
    clear hB
    have hconv := buf_conv HB.out
    by_cases h0 : 0 < t.size
    · obtain ⟨c, r, hcr⟩ := cons_of h0
      obtain ⟨h00, hc0⟩ := head_of hcr
      have htl := tail_of hcr
      have hrl : r.length + 1 = t.size := by rw [← len_of, hcr]; rfl
      have hT : ∃ T : ByteArray, t.extract 1 t.size = T ∧ T.data.toList = r ∧ T.size = r.length := ⟨_, rfl, htl, by rw [← len_of, htl]⟩
      obtain ⟨T, hT, hTr, hTs⟩ := hT
      rw [hcr] at HR
      have HT := Lib.hid hT
      have HTr := Lib.hid hTr
      have HTs := Lib.hid hTs
      have HRL := Lib.hid hrl
      have HC0 := Lib.hid hc0
      clear htl hcr hT hTr hTs hrl hc0
      have he : (!t.toList.isEmpty) = true := by rw [Lib.toList_data]; have h := HTr.out; cases hq : t.data.toList with
        | nil => have := len_of t; rw [hq] at this; simp at this; omega
        | cons _ _ => rfl
      cases h39 : ((t[0].toNat : Int) == 39)
      · have n39 : c ≠ 39 := fun e => by rw [HC0.out, e] at h39; cases h39
        cases h92 : ((t[0].toNat : Int) == 92)
        · have n92 : c ≠ 92 := fun e => by rw [HC0.out, e] at h92; cases h92
          have HN := Lib.hid (fun out => marked_byte 39 c v out r n39 (.inl n92))
          clear n39 n92
          go_wp2_with (at_builtin; refine buf_push HB.out rfl _ _ rfl rfl [c] _ _ _ _ rfl rfl ?ha1 ?hl1 ?_)
          case ha1 => rw [HC0.out]; rfl
          case hl1 => simp only [List.length_cons, List.length_nil]; omega
          intro v2 w2 hB2
          have HB2 := Lib.hid hB2
          clear hB2 hconv
          go_wp2_with fail
          go_roundg (gk - 1)
          case measure => omega
          case rel => exact ⟨T, v ++ [c], by rw [HT.out], by rw [HTs.out]; have := HRL.out; omega, HB2.out, by rw [HTs.out, List.length_append, List.length_singleton]; have := HRL.out; omega, fun out => by rw [HR.out, HN.out, HTr.out]⟩
        · have e92 : c = 92 := by
            have h := eq_of_beq h92
            rw [HC0.out] at h
            exact UInt8.toNat_inj.1 (by show _ = 92; omega)
          subst e92
          by_cases h1 : 0 < T.size
          · obtain ⟨d, r2, hdr⟩ := cons_of h1
            obtain ⟨h01, hd0⟩ := head_of hdr
            have hrr : r = d :: r2 := HTr.out.symm.trans hdr
            subst hrr
            have he2 : (!(t.extract 1 t.size).toList.isEmpty) = true := by rw [HT.out, Lib.toList_data, hdr]; rfl
            have hTlen : (t.extract 1 t.size).size = t.size - 1 := by rw [HT.out, HTs.out]; have := HRL.out; omega
            have hx0 : 0 < (t.extract 1 t.size).size := by rw [HT.out]; exact h01
            have hd1 : (t.extract 1 t.size)[0]'hx0 = d := by
              have : ∀ (X : ByteArray) (hX : t.extract 1 t.size = X) (h : 0 < X.size), (t.extract 1 t.size)[0]'hx0 = X[0]'h := by intro X hX h; subst hX; rfl
              rw [this T HT.out h01]; exact hd0
            have HD := Lib.hid hd1
            have HDR := Lib.hid hdr
            clear hdr hd1 hd0
            have hgt : 1 < t.size := by have := HRL.out; simp at this; omega
            have HTL := Lib.hid hTlen
            clear hTlen
            cases h39b : (((t.extract 1 t.size)[0].toNat : Int) == 39)
            · have nd : d ≠ 39 := fun e => by rw [HD.out, e] at h39b; cases h39b
              have HN := Lib.hid (fun out => marked_byte 39 92 v out (d :: r2) (by decide) (.inr (.inr ⟨rfl, fun e => nd (by simpa using e)⟩)))
              clear nd
              go_wp2_with (at_builtin; refine buf_push HB.out rfl _ _ rfl rfl [92] _ _ _ _ rfl rfl ?ha4 ?hl4 ?_)
              case ha4 => rw [HC0.out]; rfl
              case hl4 => simp only [List.length_cons, List.length_nil]; omega
              intro v2 w2 hB2
              have HB2 := Lib.hid hB2
              clear hB2 hconv
              go_wp2_with fail
              go_roundg (gk - 1)
              case measure => omega
              case rel => exact ⟨T, v ++ [92], by rw [HT.out], by rw [HTs.out]; have := HRL.out; omega, HB2.out, by rw [HTs.out, List.length_append, List.length_singleton]; have := HRL.out; omega, fun out => by rw [HR.out, HN.out, HTr.out]⟩
            · have ed : d = 39 := by
                have h := eq_of_beq h39b
                rw [HD.out] at h
                exact UInt8.toNat_inj.1 (by show _ = 39; omega)
              subst ed
              have HN := Lib.hid (fun out => marked_apo v out r2)
              have htl2 := tail_of HDR.out
              have HT2 := Lib.hid htl2
              clear htl2 hconv
              go_wp2_with fail
              go_quiet (fail)
              have HB3 := Lib.hid (HB.out.below (below_drewN wr nq))
              generalize wr.drewN nq = wq at *
              go_wp2_with (at_builtin; refine buf_push HB3.out rfl _ _ rfl rfl [39] _ _ _ _ rfl rfl ?ha5 ?hl5 ?_)
              case ha5 => rfl
              case hl5 => simp only [List.length_cons, List.length_nil]; omega
              intro v2 w2 hB2
              have HB2 := Lib.hid hB2
              clear hB2
              go_wp2_with fail
              go_roundg (gk - 1)
              case measure => omega
              case rel =>
                have h2 := HRL.out
                simp only [List.length_cons] at h2
                refine ⟨⟨r2.toArray⟩, v ++ [39], ?_, by rw [size_of]; omega, HB2.out, by rw [size_of, List.length_append, List.length_singleton]; omega, fun out => by rw [HR.out, HN.out, bytes_of]⟩
                have h5 := HT2.out
                have h6 := HTs.out
                simp only [List.length_cons] at h6
                rw [← HT.out, show (t.extract 1 t.size).size = t.size - 1 by rw [HT.out]; omega] at h5
                exact congrArg Value.string (text_ext (by rw [bytes_of]; exact h5))
          · have hr0 : r = [] := List.eq_nil_of_length_eq_zero (by rw [← HTs.out]; omega)
            subst hr0
            have HN := Lib.hid (fun out => marked_byte 39 92 v out [] (by decide) (.inr (.inl rfl)))
            have he2 : (!(t.extract 1 t.size).toList.isEmpty) = false := by rw [HT.out, Lib.toList_data, HTr.out]; rfl
            go_wp2_with (at_builtin; refine buf_push HB.out rfl _ _ rfl rfl [92] _ _ _ _ rfl rfl ?ha3 ?hl3 ?_)
            case ha3 => rw [HC0.out]; rfl
            case hl3 => simp only [List.length_cons, List.length_nil]; omega
            intro v2 w2 hB2
            have HB2 := Lib.hid hB2
            clear hB2 hconv
            go_wp2_with fail
            go_roundg (gk - 1)
            case measure => omega
            case rel => exact ⟨T, v ++ [92], by rw [HT.out], by rw [HTs.out]; simp, HB2.out, by rw [HTs.out, List.length_append, List.length_singleton]; have := HRL.out; simp at *; omega, fun out => by rw [HR.out, HN.out, HTr.out]⟩
      · go_wp2_with fail
        go_ret3
        exact word_some HB.out.bel HR.out (UInt8.toNat_inj.1 (by have h := eq_of_beq h39; rw [HC0.out] at h; show _ = 39; omega)) (by rw [HT.out]; exact HTr.out) (by have := HRL.out; omega)
    · have hl : t.data.toList = [] := List.eq_nil_of_length_eq_zero (by rw [len_of]; omega)
      have HL := Lib.hid hl
      clear hl
      obtain rfl : t = ⟨#[]⟩ := text_ext HL.out
      go_wp2_with fail
      go_ret3
      exact word_none HB.out.bel HR.out rfl
end Go.Proofs.YtenhgjpoigkdgaaGreatDoor.Ln
