/- item.Add, the chapter's example, both Appends. Conditions: the three library variables hold what start-up lays; bounds. -/
import Derived.Test.YtfljonmfkjblhaaGreatDoorIc7
import Derived.Test.YtfljonmfkjblhaaGreatDoorIb5
namespace Go.Proofs.YtfljonmfkjblhaaGreatDoor.Ia
open Go.ChangeShapes Go.WideShapes Go.ChangeAt Go.RowKit
/-- The text of a text's item, or the one that stands for none. -/
def txtO (k : Int) (t d : ByteArray) : ByteArray × Int := if k = 0 then (d, 0) else if k = 1 then (t, 0) else (⟨#[]⟩, 91)
def zeroT : ByteArray := ⟨#[48]⟩
theorem wp_zero : Num.wp zeroT.data.toList = (0, 0) := by
  have h := Num.wp_itoa 0 (by omega) (by omega)
  rw [Num.itoa_digit (by omega) (by omega)] at h
  exact h
/-- The number that a sum comes to, and the error's number. -/
def sumOf (k : Int) (t : ByteArray) (n : Int) : Int × Int :=
  if k = 0 then addOf 0 n else if k = 1 then (if (Num.wp t.data.toList).2 = 0 then addOf (Num.wp t.data.toList).1 n else (0, 92)) else (0, 91)
theorem addOf_rng (a b : Int) : -9223372036854775808 ≤ (addOf a b).1 ∧ (addOf a b).1 ≤ 9223372036854775807 ∧ ((addOf a b).2 = 0 ∨ (addOf a b).2 = 12) := by
  unfold addOf
  split
  · rename_i h; exact ⟨h.1, h.2, .inl rfl⟩
  · exact ⟨by decide, by decide, .inr rfl⟩
set_option maxHeartbeats 8000000 in
theorem sum_calls (w : World) (hc : Ctx w) (k : Int) (t : ByteArray) (v : Value) (n : Int) (hn0 : -9223372036854775808 ≤ n) (hn1 : n ≤ 9223372036854775807) (ht : t.size ≤ 100000) (x y : Int) (hxy : sumOf k t n = (x, y)) :
    Calls Tryz.prog 14 #[.agg #[.int .i64 k, .string t, v], .int .i64 n] w fun e w' => e = .returned (.tuple #[.int .i64 x, .int .i64 y]) ∧ Below w.heap.size w w' := by
  have H := Lib.hid hc
  clear hc
  unfold sumOf at hxy
  by_cases h0 : k = 0
  · subst h0
    rw [if_pos rfl] at hxy
    have HX := Lib.hid hxy
    have HT := Lib.hid (fun W => textOf_calls W 0 t zeroT v zeroT 0 rfl)
    clear hxy
    go_enter Tryz.func14, Tryz.ntmps14
    go_wp2_with fail
    refine (HT.out _).mono ?_
    rintro e w2 ⟨rfl, hb⟩
    have HB := Lib.hid (bstep (bbox _) hb)
    clear hb
    go_wp2_with fail
    refine (Parse_calls zeroT (by decide) _ (H.out.below HB.out) _ _ wp_zero).mono ?_
    rintro e w3 ⟨rfl, hb⟩
    have HB3 := Lib.hid (bstep HB.out hb)
    clear hb
    go_wp2_with fail
    refine (Add_calls 0 n (by omega) (by omega) hn0 hn1 _ _ _ HX.out).mono ?_
    rintro e w4 ⟨rfl, rfl⟩
    go_wp2_with fail
    go_ret2
    exact ⟨rfl, HB3.out⟩
  · by_cases h1 : k = 1
    · subst h1
      rw [if_neg (by omega), if_pos rfl] at hxy
      have HT := Lib.hid (fun W => textOf_calls W 1 t zeroT v t 0 rfl)
      rcases Num.wp_cases t.data.toList with ⟨q, q0, q1, -, hq⟩ | ⟨-, hq⟩
      · rw [hq, if_pos rfl] at hxy
        have HX := Lib.hid hxy
        have HQ := Lib.hid hq
        clear hxy hq
        go_enter Tryz.func14, Tryz.ntmps14
        go_wp2_with fail
        refine (HT.out _).mono ?_
        rintro e w2 ⟨rfl, hb⟩
        have HB := Lib.hid (bstep (bbox _) hb)
        clear hb
        go_wp2_with fail
        refine (Parse_calls t (by omega) _ (H.out.below HB.out) _ _ HQ.out).mono ?_
        rintro e w3 ⟨rfl, hb⟩
        have HB3 := Lib.hid (bstep HB.out hb)
        clear hb
        go_wp2_with fail
        refine (Add_calls q n q0 q1 hn0 hn1 _ _ _ HX.out).mono ?_
        rintro e w4 ⟨rfl, rfl⟩
        go_wp2_with fail
        go_ret2
        exact ⟨rfl, HB3.out⟩
      · rw [hq, if_neg (by decide)] at hxy
        injection hxy with e1 e2
        subst e1 e2
        have HQ := Lib.hid hq
        clear hq
        go_enter Tryz.func14, Tryz.ntmps14
        go_wp2_with fail
        refine (HT.out _).mono ?_
        rintro e w2 ⟨rfl, hb⟩
        have HB := Lib.hid (bstep (bbox _) hb)
        clear hb
        go_wp2_with fail
        refine (Parse_calls t (by omega) _ (H.out.below HB.out) _ _ HQ.out).mono ?_
        rintro e w3 ⟨rfl, hb⟩
        have HB3 := Lib.hid (bstep HB.out hb)
        clear hb
        go_wp2_with fail
        go_ret2
        exact ⟨rfl, HB3.out⟩
    · rw [if_neg h0, if_neg h1] at hxy
      injection hxy with e1 e2
      subst e1 e2
      have HT := Lib.hid (fun W => textOf_calls W k t zeroT v ⟨#[]⟩ 91 (by rw [if_neg h0, if_neg h1]))
      clear h0 h1
      go_enter Tryz.func14, Tryz.ntmps14
      go_wp2_with fail
      refine (HT.out _).mono ?_
      rintro e w2 ⟨rfl, hb⟩
      have HB := Lib.hid (bstep (bbox _) hb)
      clear hb
      go_wp2_with fail
      go_ret2
      exact ⟨rfl, HB.out⟩
theorem bset3 {w w2 : World} (h : Below w.heap.size w w2) {b : Nat} (hb : w.heap.size ≤ b) (x y z : Value) : Below w.heap.size w (((w2.setCell ⟨b, 0, none⟩ x).setCell ⟨b, 1, none⟩ y).setCell ⟨b, 2, none⟩ z) :=
  ((h.setCell (p := ⟨b, 0, none⟩) hb x).setCell (p := ⟨b, 1, none⟩) hb y).setCell (p := ⟨b, 2, none⟩) hb z
set_option maxHeartbeats 8000000 in
set_option maxRecDepth 100000 in
theorem add_ok (w : World) (hc : Ctx w) (k : Int) (t : ByteArray) (a : Option Addr) (c len : Nat) (n : Int) (hn0 : -9223372036854775808 ≤ n) (hn1 : n ≤ 9223372036854775807) (ht : t.size ≤ 100000) (x : Int) (hx0 : -9223372036854775808 ≤ x) (hx1 : x ≤ 9223372036854775807) (hxy : sumOf k t n = (x, 0)) :
    Calls Tryz.prog 5 #[.agg #[.int .i64 k, .string t, .slice a len c], .int .i64 n] w fun e w' => e = .returned (.tuple #[.agg #[.int .i64 1, .string ⟨(Lib.itoa x).toArray⟩, .slice none 0 0], .int .i64 x, .int .i64 0]) ∧ Below w.heap.size w w' := by
  have H := Lib.hid hc
  have HS := Lib.hid (fun W (h : Below w.heap.size w W) => sum_calls W (hc.below h) k t (.slice a len c) n hn0 hn1 ht x 0 hxy)
  have HC := Lib.hid (fun O => (Cell3.new w (.int .i64 k) (.string t) (.slice a len c) 24).alloc O)
  have HD := Lib.hid (fun O => Cell3.new2 (w.alloc O) (w.heap.size + 1) (by simp) (.int .i64 0) (.string ⟨#[]⟩) (.slice none 0 0) 24)
  clear hc hxy
  go_enter Tryz.func5, Tryz.ntmps5
  go_wp2_with fail
  refine (HS.out _ (bstep (bbox _) (bbox _))).mono ?_
  rintro e w2 ⟨rfl, hb⟩
  have HB := Lib.hid (bstep (bstep (bbox _) (bbox _)) hb)
  have HD2 := Lib.hid ((HD.out _).below hb)
  clear hb
  go_wp2_with fail
  refine (Text_calls x hx0 hx1 _ (H.out.below HB.out)).mono ?_
  rintro e w3 ⟨rfl, hb⟩
  have HB3 := Lib.hid (bstep HB.out hb)
  have HD3 := Lib.hid (HD2.out.below hb)
  clear hb
  have HTI := Lib.hid (fun (W : World) (s : ByteArray) => textItem_calls W s)
  generalize hse : (⟨(Lib.itoa x).toArray⟩ : ByteArray) = s at *
  have E := Lib.hid hse
  clear hse
  go_wp2_with fail
  refine (HTI.out _ _).mono ?_
  rintro e w4 ⟨rfl, hb⟩
  have HB4 := Lib.hid (bstep HB3.out hb)
  have HD4 := Lib.hid (HD3.out.below hb)
  have d0 := HD4.out.c0
  have d1 := HD4.out.c1
  have d2 := HD4.out.c2
  have g0 := HD4.out.f 0 (by omega)
  have g1 := HD4.out.f 1 (by omega)
  have g2 := HD4.out.f 2 (by omega)
  clear hb
  go_wp2_with fail
  exact bodyPost_ret (v := .tuple #[.agg #[.int .i64 1, .string s, .slice none 0 0], .int .i64 x, .int .i64 0]) (by simp [results, Tryz.results5, go_sem, d0, d1, d2]) rfl
    ⟨by rw [E.out], bset3 HB4.out (by omega) _ _ _⟩
set_option maxHeartbeats 8000000 in
set_option maxRecDepth 100000 in
theorem add_err (w : World) (hc : Ctx w) (k : Int) (t : ByteArray) (a : Option Addr) (c len : Nat) (l : List Fd) (hlen : len = l.length) (hl : l.length ≤ 1000000) (hI : InF w a l) (n : Int) (hn0 : -9223372036854775808 ≤ n) (hn1 : n ≤ 9223372036854775807) (ht : t.size ≤ 100000) (x y : Int) (hxy : sumOf k t n = (x, y)) (hy : (y != 0) = true) :
    Calls Tryz.prog 5 #[.agg #[.int .i64 k, .string t, .slice a len c], .int .i64 n] w fun e w' => ∃ v, e = .returned (.tuple #[v, .int .i64 0, .int .i64 y]) ∧ ItV w' v ⟨k, t, l⟩ ∧ Below w.heap.size w w' := by
  subst hlen
  have HS := Lib.hid (fun W (h : Below w.heap.size w W) => sum_calls W (hc.below h) k t (.slice a l.length c) n hn0 hn1 ht x y hxy)
  have HCp := Lib.hid (fun W (h : Below w.heap.size w W) => copy_calls W k t a c _ l rfl (hI.below (Nat.le_refl _) h) hl)
  have HC := Lib.hid (fun O => (Cell3.new w (.int .i64 k) (.string t) (.slice a l.length c) 24).alloc O)
  have HD := Lib.hid (fun O => Cell3.new2 (w.alloc O) (w.heap.size + 1) (by simp) (.int .i64 0) (.string ⟨#[]⟩) (.slice none 0 0) 24)
  clear hc hxy hI
  go_enter Tryz.func5, Tryz.ntmps5
  go_wp2_with fail
  refine (HS.out _ (bstep (bbox _) (bbox _))).mono ?_
  rintro e w2 ⟨rfl, hb⟩
  have HB := Lib.hid (bstep (bstep (bbox _) (bbox _)) hb)
  have HC2 := Lib.hid ((HC.out _).below hb)
  have HD2 := Lib.hid ((HD.out _).below hb)
  have c0 := HC2.out.c0
  have c1 := HC2.out.c1
  have c2 := HC2.out.c2
  clear hb
  go_wp2_with fail
  refine (HCp.out _ HB.out).mono ?_
  rintro e w3 ⟨v, rfl, hR⟩
  have HD3 := Lib.hid (HD2.out.below hR.bel)
  have d0 := HD3.out.c0
  have d1 := HD3.out.c1
  have d2 := HD3.out.c2
  have g0 := HD3.out.f 0 (by omega)
  have g1 := HD3.out.f 1 (by omega)
  have g2 := HD3.out.f 2 (by omega)
  obtain ⟨sa, sc, rfl, -, -, -⟩ := hR.slice
  have hRs := hR.sets3 (wa := w) (b := w.heap.size + 1) (by omega) HD2.out.lt HB.out
  have HRs := Lib.hid hRs
  clear hR hRs
  go_wp2_with fail
  exact bodyPost_ret (v := .tuple #[.agg #[.int .i64 k, .string t, .slice sa l.length sc], .int .i64 0, .int .i64 y]) (by simp [results, Tryz.results5, go_sem, d0, d1, d2]) rfl
    ⟨_, rfl, (HRs.out _ _ _).itv k t, (HRs.out _ _ _).bel⟩
theorem sum_zero_one : sumOf 0 ⟨#[]⟩ 1 = (1, 0) := by unfold sumOf addOf; simp
theorem itoa_one : (⟨(Lib.itoa 1).toArray⟩ : ByteArray) = ⟨#[49]⟩ := by rw [Num.itoa_digit (by omega) (by omega)]; rfl
theorem textC_one : textC ⟨#[49]⟩ = 8 := by
  have h := Num.wp_itoa 1 (by omega) (by omega)
  rw [Num.itoa_digit (by omega) (by omega)] at h
  have h2 : Num.wp (⟨#[49]⟩ : ByteArray).data.toList = (1, 0) := h
  unfold textC
  rw [h2]
  rfl
set_option maxHeartbeats 4000000 in
theorem alive_calls (w : World) (hc : Ctx w) : Calls Tryz.prog 8 #[] w fun e w' => e = .returned (.bool true) ∧ Below w.heap.size w w' := by
  have H := Lib.hid hc
  have HA := Lib.hid (add_ok w hc 0 ⟨#[]⟩ none 0 0 1 (by omega) (by omega) (by decide) 1 (by omega) (by omega) sum_zero_one)
  rw [itoa_one] at HA
  have HK := Lib.hid (fun (W : World) (h : Below w.heap.size w W) => cost_text W (hc.below h) ⟨#[107]⟩ ⟨#[49]⟩ (.slice none 0 0) (by decide) (by decide))
  rw [textC_one] at HK
  clear hc
  go_enter Tryz.func8, Tryz.ntmps8
  go_wp2_with fail
  refine HA.out.mono ?_
  rintro e w2 ⟨rfl, hb⟩
  have HB := Lib.hid hb
  clear hb
  go_wp2_with fail
  refine (HK.out _ (bstep HB.out (bbox _))).mono ?_
  rintro e w3 ⟨rfl, hb⟩
  have HB3 := Lib.hid (bstep (bstep HB.out (bbox _)) hb)
  clear hb
  go_wp2_with fail
  go_ret
  exact ⟨rfl, HB3.out⟩
end Go.Proofs.YtfljonmfkjblhaaGreatDoor.Ia
