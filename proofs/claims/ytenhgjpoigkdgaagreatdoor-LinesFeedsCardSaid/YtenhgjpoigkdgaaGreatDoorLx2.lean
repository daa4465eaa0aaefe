/- Package lines' quoted and bare. Conditions: what start-up lays ('LCtx'); escaped's contract. -/
import Derived.Test.YtenhgjpoigkdgaaGreatDoorLb1
import Derived.Deep.QuietTactic
import Derived.BigQuiet
namespace Go.Proofs.YtenhgjpoigkdgaaGreatDoor.Ln
open Go.ChangeShapes Go.WideShapes Go.ChangeAt Go.RowKit
open Go.Proofs.YtenhgjpoigkdgaaGreatDoor.Lw

/-- What escaped must answer. -/
def EscOK : Prop := ∀ (s : ByteArray) (d : UInt8) (r : List UInt8) (w : World), LCtx w → s.data.toList = d :: r → s.size ≤ 1000000000 →
  Calls Tryz.prog 52 #[.string s] w fun e w' => e = .returned (.tuple #[.int .u8 (esc d r).1.toNat, .string ⟨(esc d r).2.toArray⟩]) ∧ Below w.heap.size w w'
/-- What comes of a word behind its mark. -/
def Word (m : UInt8) (s : ByteArray) (w : World) (e : Ending) (w' : World) : Prop := Below w.heap.size w w' ∧ ∃ (word rest : List UInt8) (ok : Bool),
  e = .returned (.tuple #[.string ⟨word.toArray⟩, .string ⟨rest.toArray⟩, .bool ok]) ∧ word.length + rest.length ≤ s.size ∧ ∀ out, wrun (.marked m [] out) s.data.toList = if ok then wrun (.after (out ++ [word])) rest else none
theorem word_none {m : UInt8} {s : ByteArray} {w w' : World} {l v : List UInt8} (hb : Below w.heap.size w w') (h : ∀ out, wrun (.marked m [] out) s.data.toList = wrun (.marked m v out) l) (hl : l = []) :
    Word m s w (.returned (.tuple #[.string ⟨#[]⟩, .string ⟨#[]⟩, .bool false])) w' := by
  subst hl
  exact ⟨hb, [], [], false, rfl, by simp, fun out => by rw [h, marked_nil]; rfl⟩
theorem word_some {m : UInt8} {s t : ByteArray} {w w' : World} {c : UInt8} {r v : List UInt8} (hb : Below w.heap.size w w') (h : ∀ out, wrun (.marked m [] out) s.data.toList = wrun (.marked m v out) (c :: r)) (hc : c = m) (hr : t.data.toList = r) (hl : v.length + r.length ≤ s.size) :
    Word m s w (.returned (.tuple #[.string ⟨v.toArray⟩, .string t, .bool true])) w' := by
  subst hc
  refine ⟨hb, v, r, true, ?_, hl, fun out => by rw [h, marked_end]; rfl⟩
  rw [← hr, text_mk]
theorem u8_of {c : UInt8} {n : Nat} (hn : n < 256) : ((c.toNat : Int) == (n : Int)) = (c == UInt8.ofNat n) := by
  have e0 : (UInt8.ofNat n).toNat = n := by simp [Nat.mod_eq_of_lt hn]
  by_cases h : c = UInt8.ofNat n
  · subst h; rw [e0]; simp
  · rw [beq_eq_false_iff_ne.2 h, beq_eq_false_iff_ne]
    intro e
    apply h
    apply UInt8.toNat_inj.1
    rw [e0]
    omega

set_option maxHeartbeats 4000000 in
set_option maxRecDepth 100000 in
theorem quoted_calls (hE : EscOK) (s : ByteArray) (hs : s.size ≤ 1000000) (w : World) (hc : LCtx w) : Calls Tryz.prog 35 #[.string s] w (Word 34 s w) := by
  have HC := Lib.hid hc
  have HE := Lib.hid hE
  clear hc hE
  go_enter Tryz.func35, Tryz.ntmps35
  go_wp2_with fail
  go_loopg [0, 5, 6] s.size (fun g st b _ wr => ∃ (t : ByteArray) (v : List UInt8), st = .string t ∧ t.size ≤ g ∧ BufB w wr b v ∧ v.length + t.size ≤ s.size ∧ Hid (∀ out, wrun (.marked 34 [] out) s.data.toList = wrun (.marked 34 v out) t.data.toList))
  case atStart => exact ⟨s, [], rfl, Nat.le_refl _, Row.nil w, by simp, fun _ => rfl⟩
  case round =>
    obtain ⟨t, v, rfl, htg, hB, hvt, HR⟩ := hrel
    have HB := Lib.hid hB
    clear hB
    have hconv := buf_conv HB.out
    by_cases h0 : 0 < t.size
    · obtain ⟨c, r, hcr⟩ := cons_of h0
      obtain ⟨h00, hc0⟩ := head_of hcr
      have htl := tail_of hcr
      have hrl : r.length + 1 = t.size := by rw [← len_of, hcr]; rfl
      have hT : ∃ T : ByteArray, t.extract 1 t.size = T ∧ T.data.toList = r ∧ T.size = r.length := ⟨_, rfl, htl, by rw [← len_of, htl]⟩
      obtain ⟨T, hT, hTr, hTs⟩ := hT
      rw [hcr] at HR
      have HT := Lib.hid hT
      have HTr := Lib.hid hTr
      have HTs := Lib.hid hTs
      have HRL := Lib.hid hrl
      have HC0 := Lib.hid hc0
      clear htl hcr hT hTr hTs hrl hc0
      have he : (!t.toList.isEmpty) = true := by rw [Lib.toList_data]; have h := HTr.out; cases hq : t.data.toList with
        | nil => have := len_of t; rw [hq] at this; simp at this; omega
        | cons _ _ => rfl
      cases h34 : ((t[0].toNat : Int) == 34)
      · have n34 : c ≠ 34 := fun e => by rw [HC0.out, e] at h34; cases h34
        cases h92 : ((t[0].toNat : Int) == 92)
        · have n92 : c ≠ 92 := fun e => by rw [HC0.out, e] at h92; cases h92
          have HN := Lib.hid (fun out => marked_byte 34 c v out r n34 (.inl n92))
          clear n34 n92
          go_wp2_with (at_builtin; refine buf_push HB.out rfl _ _ rfl rfl [c] _ _ _ _ rfl rfl ?ha1 ?hl1 ?_)
          case ha1 => rw [HC0.out]; rfl
          case hl1 => simp only [List.length_cons, List.length_nil]; omega
          intro v2 w2 hB2
          have HB2 := Lib.hid hB2
          clear hB2 hconv
          go_wp2_with fail
          go_roundg (gk - 1)
          case measure => omega
          case rel => exact ⟨T, v ++ [c], by rw [HT.out], by rw [HTs.out]; have := HRL.out; omega, HB2.out, by rw [HTs.out, List.length_append, List.length_singleton]; have := HRL.out; omega, fun out => by rw [HR.out, HN.out, HTr.out]⟩
        · have e92 : c = 92 := by
            have h := eq_of_beq h92
            rw [HC0.out] at h
            exact UInt8.toNat_inj.1 (by show _ = 92; omega)
          subst e92
          by_cases h1 : 0 < T.size
          · obtain ⟨d, r2, hdr⟩ := cons_of h1
            have hrr : r = d :: r2 := HTr.out.symm.trans hdr
            subst hrr
            have HN := Lib.hid (fun out => marked_esc v out d r2)
            have hle := esc_le d r2
            have HEC := Lib.hid (fun w2 (h2 : Below w.heap.size w w2) => HE.out T d r2 w2 (HC.out.below h2) hdr (by have := HTs.out; have := HRL.out; simp at *; omega))
            generalize hes : esc d r2 = es at *
            obtain ⟨x, y⟩ := es
            have HY := Lib.hid hle
            have he2 : (!(t.extract 1 t.size).toList.isEmpty) = true := by rw [HT.out, Lib.toList_data, hdr]; rfl
            clear hes hle hdr
            go_wp2_with fail
            rw [HT.out]
            refine (HEC.out _ HB.out.bel).mono ?_; rintro en w1 ⟨rfl, hb1⟩
            have HB1 := Lib.hid (HB.out.below hb1)
            clear hb1 hconv
            go_wp2_with (at_builtin; refine buf_push HB1.out rfl _ _ rfl rfl [x] _ _ _ _ rfl rfl ?ha2 ?hl2 ?_)
            case ha2 => rfl
            case hl2 => simp only [List.length_cons, List.length_nil]; omega
            intro v2 w2 hB2
            have HB2 := Lib.hid hB2
            clear hB2
            go_wp2_with fail
            go_roundg (gk - 1)
            case measure => omega
            case rel =>
              have h1 := HY.out
              have h2 := HRL.out
              simp only [List.length_cons] at h1 h2
              exact ⟨⟨y.toArray⟩, v ++ [x], rfl, by rw [size_of]; omega, HB2.out, by rw [size_of, List.length_append, List.length_singleton]; omega, fun out => by rw [HR.out, HN.out, bytes_of]⟩
          · have hr0 : r = [] := List.eq_nil_of_length_eq_zero (by rw [← HTs.out]; omega)
            subst hr0
            have HN := Lib.hid (fun out => marked_byte 34 92 v out [] (by decide) (.inr (.inl rfl)))
            have he2 : (!(t.extract 1 t.size).toList.isEmpty) = false := by rw [HT.out, Lib.toList_data, HTr.out]; rfl
            go_wp2_with (at_builtin; refine buf_push HB.out rfl _ _ rfl rfl [92] _ _ _ _ rfl rfl ?ha3 ?hl3 ?_)
            case ha3 => rw [HC0.out]; rfl
            case hl3 => simp only [List.length_cons, List.length_nil]; omega
            intro v2 w2 hB2
            have HB2 := Lib.hid hB2
            clear hB2 hconv
            go_wp2_with fail
            go_roundg (gk - 1)
            case measure => omega
            case rel => exact ⟨T, v ++ [92], by rw [HT.out], by rw [HTs.out]; simp, HB2.out, by rw [HTs.out, List.length_append, List.length_singleton]; have := HRL.out; simp at *; omega, fun out => by rw [HR.out, HN.out, HTr.out]⟩
      · go_wp2_with fail
        go_ret3
        exact word_some HB.out.bel HR.out (UInt8.toNat_inj.1 (by have h := eq_of_beq h34; rw [HC0.out] at h; show _ = 34; omega)) (by rw [HT.out]; exact HTr.out) (by have := HRL.out; omega)
    · have hl : t.data.toList = [] := List.eq_nil_of_length_eq_zero (by rw [len_of]; omega)
      have HL := Lib.hid hl
      clear hl
      obtain rfl : t = ⟨#[]⟩ := text_ext HL.out
      go_wp2_with fail
      go_ret3
      exact word_none HB.out.bel HR.out rfl
end Go.Proofs.YtenhgjpoigkdgaaGreatDoor.Ln
