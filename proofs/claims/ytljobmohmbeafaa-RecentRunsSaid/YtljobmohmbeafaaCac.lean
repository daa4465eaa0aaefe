/- RecentTwo. No condition. -/
import Derived.Test.YtljobmohmbeafaaCaa
namespace Go.Proofs.Ytljobmohmbeafaa.Ca
open Go.ChangeShapes Go.WideShapes Go.ChangeAt Go.RowKit Go.Maps Go.WideMaps
/-- Texts that came in, as they lie. -/
def InO (W : World) (a : Option Addr) (l : List ByteArray) : Prop := 0 < l.length → ∃ b o, a = some ⟨b, o, none⟩ ∧ b < W.heap.size ∧ ∀ i (h : i < l.length), W.cell? ⟨b, o + i, none⟩ = some (.string l[i])
theorem InO.below {B : Nat} {w w' : World} {a : Option Addr} {l : List ByteArray} (h : InO w a l) (hB : w.heap.size ≤ B) (hb : Below B w w') : InO w' a l := fun hp => by
  obtain ⟨b, o, rfl, hlt, hc⟩ := h hp
  exact ⟨b, o, rfl, Nat.lt_of_lt_of_le hlt hb.size, fun i hi => (hb.cell (p := ⟨b, o + i, none⟩) (Nat.lt_of_lt_of_le hlt hB)).trans (hc i hi)⟩
theorem oldK_head (but : ByteArray) (K : List ByteArray) : (dropK but K).head? = oldK but K := List.head?_filter ..
theorem old_none {but : ByteArray} {K : List ByteArray} (hn : K.Nodup) (h : oldK but K = none) : dropK but K = [] ∧ (K.length = 0 ∨ (K.length = 1 ∧ inK but K = true)) := by
  have hd : dropK but K = [] := List.head?_eq_none_iff.1 ((oldK_head but K).trans h)
  refine ⟨hd, ?_⟩
  match K, hn, hd with
  | [], _, _ => exact .inl rfl
  | [x], _, hd =>
    have : x = but := Classical.byContradiction fun hx => by simp [dropK, hx] at hd
    exact .inr ⟨rfl, inK_iff.2 (by simp [this])⟩
  | x :: y :: r, hn, hd =>
    exfalso
    have e : ∀ z ∈ x :: y :: r, z = but := fun z hz => by
      have := List.filter_eq_nil_iff.1 hd z hz
      simpa using this
    have h1 := e x (by simp)
    have h2 := e y (by simp)
    simp [h1, h2] at hn
theorem old_some {but x : ByteArray} {K : List ByteArray} (h : oldK but K = some x) : x ≠ but ∧ (∃ r, dropK but K = x :: r) ∧ (1 < K.length ∨ (K.length = 1 ∧ inK but K = false)) := by
  have hd := (oldK_head but K).trans h
  have h1 : x ≠ but := by
    have := List.find?_some h
    simpa using this
  refine ⟨h1, ?_, ?_⟩
  · cases e : dropK but K with
    | nil => rw [e] at hd; cases hd
    | cons y r => rw [e] at hd; cases hd; exact ⟨r, rfl⟩
  · match K, h with
    | [], h => cases h
    | [y], h =>
      refine .inr ⟨rfl, inK_false.2 fun hm => ?_⟩
      have e : but = y := by simpa using hm
      subst e
      simp [oldK] at h
    | y :: z :: r, _ => exact .inl (by simp)
set_option maxHeartbeats 8000000 in
set_option maxRecDepth 100000 in
theorem recentTwo (xa : Option Addr) (xc : Nat) (l : List ByteArray) (w : World) (hI : InO w xa l) (hS : ∀ i (h : i < l.length), l[i].size ≤ maxLen) (but : ByteArray) (hbut : but.size ≤ maxLen) :
    Calls Try.prog 5 #[.slice xa l.length xc, .string but] w fun e w' => e = .returned (.bool true) ∧ Below w.heap.size w w' := by
  have HI := Lib.hid hI
  have HSZ := Lib.hid hS
  have HBU := Lib.hid hbut
  clear hI hS hbut
  have HA := Lib.hid (recentAlive w)
  go_enter Try.func5, Try.ntmps5
  go_wp2_with fail
  refine HA.out.mono ?_; rintro en w2 ⟨rfl, hb2⟩
  have HB2 := Lib.hid hb2
  have HI2 := Lib.hid (HI.out.below (Nat.le_refl _) hb2)
  clear hb2 HA HI
  by_cases hl : 60 < l.length
  · have hlc : (60 : Int) < (l.length : Int) := by omega
    go_wp2_with fail
    go_ret
    exact ⟨rfl, HB2.out⟩
  have hlc : ¬ (60 : Int) < (l.length : Int) := by omega
  have HN := Lib.hid (rc_new w2 w2 (Below.refl _ _))
  go_wp2_with fail
  refine HN.out.mono ?_; rintro en w3 ⟨T, rfl, h3⟩
  have H3 := Lib.hid h3
  clear h3 HN
  go_wp2_with fail
  go_loopg [7, 19] (l.length + 1) (fun g _ vi wr => ∃ (i : Nat) (K : List ByteArray), vi = .int .i64 i ∧ i ≤ l.length ∧ l.length - i ≤ g ∧ K.length ≤ i ∧ Hid (K.Nodup) ∧ Hid (RC w2 T wr K none []))
  case atStart => exact ⟨0, [], rfl, by omega, by omega, Nat.le_refl _, Lib.hid List.nodup_nil, H3⟩
  case round =>
    obtain ⟨i, K, rfl, hi, hg, hK, HND, HR1⟩ := hrel
    clear H3
    by_cases hil : i < l.length
    case pos =>
      have hic : (i : Int) < (l.length : Int) := by omega
      obtain ⟨b, o, rfl, hlt, hc⟩ := HI2.out (by omega)
      have c0 := (HR1.out.below.cell (p := ⟨b, o + i, none⟩) hlt).trans (hc i hil)
      have HS := Lib.hid (HSZ.out i hil)
      clear hc hlt
      generalize l[i] = s at *
      have HX := Lib.hid (HR1.out.touch (Below.refl _ _) s HS.out (by omega))
      have HN2 : Hid ((touchK s K).Nodup) := Lib.hid (touchK_nodup HND.out)
      have HL2 : Hid ((touchK s K).length ≤ i + 1) := Lib.hid (by have := touchK_le s K; omega)
      generalize touchK s K = K2 at *
      generalize inK s K = b2 at *
      go_wp2_with fail
      refine HX.out.mono ?_; rintro en w5 ⟨rfl, h5, -⟩
      have H5 := Lib.hid h5
      clear h5 HX c0
      go_wp2_with fail
      go_roundg (gk - 1)
      case measure => omega
      case rel => exact ⟨i + 1, _, by go_num, by omega, by omega, HL2.out, HN2, H5⟩
    case neg =>
      have hic : ¬ ((i : Int) < (l.length : Int)) := by omega
      have HL := Lib.hid HR1.out.len
      have HDr := Lib.hid (HR1.out.drop (Below.refl _ _) but HBU.out)
      have HAl := Lib.hid (fun w5 (h : RC w2 T w5 (dropK but K) none []) => h.all (by have := dropK_le but K; omega))
      cases hu : oldK but K with
      | none =>
        have HO := Lib.hid (HR1.out.oldest but none (Lib.hid hu))
        obtain ⟨hd, hcs⟩ := old_none HND.out hu
        rw [hd] at HDr HAl
        clear hu hd
        generalize hn : K.length = n at *
        rcases hcs with hn0 | ⟨hn1, hin⟩
        · obtain rfl : n = 0 := hn0
          clear HND hn
          generalize inK but K = b3 at *
          go_wp2_with fail
          refine HO.out.mono ?_; rintro en w5 ⟨rfl, rfl⟩
          go_wp2_with fail
          refine HL.out.mono ?_; rintro en w5 ⟨rfl, rfl⟩
          go_wp2_with fail
          refine HL.out.mono ?_; rintro en w5 ⟨rfl, rfl⟩
          go_wp2_with fail
          refine HDr.out.mono ?_; rintro en w6 ⟨rfl, h6, -⟩
          have HA6 := Lib.hid (HAl.out _ h6)
          have HB6 := Lib.hid h6.below
          clear h6 HDr HO HL HAl
          go_wp2_with fail
          refine HA6.out.mono ?_; rintro en w7 ⟨v7, rfl, hR7⟩
          have HB7 := Lib.hid (HB2.out.trans ((HB6.out.trans (hR7.bel.mono HB6.out.size)).mono HB2.out.size))
          obtain ⟨a7, c7, rfl, -, -, -, -⟩ := hR7.slice
          clear hR7 HA6
          go_wp2_with fail
          go_ret
          exact ⟨rfl, HB7.out⟩
        · obtain rfl : n = 1 := hn1
          have HH := Lib.hid (HR1.out.has but HBU.out true (Lib.hid hin))
          rw [hin] at HDr
          clear HND hn hin
          go_wp2_with fail
          refine HO.out.mono ?_; rintro en w5 ⟨rfl, rfl⟩
          go_wp2_with fail
          refine HL.out.mono ?_; rintro en w5 ⟨rfl, rfl⟩
          go_wp2_with fail
          refine HL.out.mono ?_; rintro en w5 ⟨rfl, rfl⟩
          go_wp2_with fail
          refine HH.out.mono ?_; rintro en w5 ⟨rfl, rfl⟩
          go_wp2_with fail
          refine HDr.out.mono ?_; rintro en w6 ⟨rfl, h6, -⟩
          have HA6 := Lib.hid (HAl.out _ h6)
          have HB6 := Lib.hid h6.below
          clear h6 HDr HO HL HAl HH
          go_wp2_with fail
          refine HA6.out.mono ?_; rintro en w7 ⟨v7, rfl, hR7⟩
          have HB7 := Lib.hid (HB2.out.trans ((HB6.out.trans (hR7.bel.mono HB6.out.size)).mono HB2.out.size))
          obtain ⟨a7, c7, rfl, -, -, -, -⟩ := hR7.slice
          clear hR7 HA6
          go_wp2_with fail
          go_ret
          exact ⟨rfl, HB7.out⟩
      | some x =>
        have HO := Lib.hid (HR1.out.oldest but (some x) (Lib.hid hu))
        obtain ⟨hxb, ⟨r, hd⟩, hcs⟩ := old_some hu
        rw [hd] at HDr HAl
        have hxe := beq_ne hxb
        have hrl : r.length ≤ 60 := by have := congrArg List.length hd; have h2 := dropK_le but K; simp at this; omega
        clear hu hd hxb
        generalize hn : K.length = n at *
        rcases hcs with hn0 | ⟨hn1, hin⟩
        · have hnc : (1 : Int) < (n : Int) := by omega
          clear HND hn
          generalize inK but K = b3 at *
          go_wp2_with fail
          refine HO.out.mono ?_; rintro en w5 ⟨rfl, rfl⟩
          go_wp2_with fail
          refine HL.out.mono ?_; rintro en w5 ⟨rfl, rfl⟩
          go_wp2_with fail
          refine HDr.out.mono ?_; rintro en w6 ⟨rfl, h6, -⟩
          have HA6 := Lib.hid (HAl.out _ h6)
          have HB6 := Lib.hid h6.below
          clear h6 HDr HO HL HAl
          go_wp2_with fail
          refine HA6.out.mono ?_; rintro en w7 ⟨v7, rfl, hR7⟩
          have HB7 := Lib.hid (HB2.out.trans ((HB6.out.trans (hR7.bel.mono HB6.out.size)).mono HB2.out.size))
          obtain ⟨a7, c7, rfl, -, -, hI7, -⟩ := hR7.slice
          obtain ⟨g7, rfl, d0⟩ := hI7 0 (by simp)
          simp only [List.getElem_cons_zero] at d0
          clear hR7 HA6 hI7
          go_wp2_with fail
          go_ret
          exact ⟨rfl, HB7.out⟩
        · obtain rfl : n = 1 := hn1
          have HH := Lib.hid (HR1.out.has but HBU.out false (Lib.hid hin))
          rw [hin] at HDr
          clear HND hn hin
          go_wp2_with fail
          refine HO.out.mono ?_; rintro en w5 ⟨rfl, rfl⟩
          go_wp2_with fail
          refine HL.out.mono ?_; rintro en w5 ⟨rfl, rfl⟩
          go_wp2_with fail
          refine HL.out.mono ?_; rintro en w5 ⟨rfl, rfl⟩
          go_wp2_with fail
          refine HH.out.mono ?_; rintro en w5 ⟨rfl, rfl⟩
          go_wp2_with fail
          refine HDr.out.mono ?_; rintro en w6 ⟨rfl, h6, -⟩
          have HA6 := Lib.hid (HAl.out _ h6)
          have HB6 := Lib.hid h6.below
          clear h6 HDr HO HL HAl HH
          go_wp2_with fail
          refine HA6.out.mono ?_; rintro en w7 ⟨v7, rfl, hR7⟩
          have HB7 := Lib.hid (HB2.out.trans ((HB6.out.trans (hR7.bel.mono HB6.out.size)).mono HB2.out.size))
          obtain ⟨a7, c7, rfl, -, -, hI7, -⟩ := hR7.slice
          obtain ⟨g7, rfl, d0⟩ := hI7 0 (by simp)
          simp only [List.getElem_cons_zero] at d0
          clear hR7 HA6 hI7
          go_wp2_with fail
          go_ret
          exact ⟨rfl, HB7.out⟩
end Go.Proofs.Ytljobmohmbeafaa.Ca
