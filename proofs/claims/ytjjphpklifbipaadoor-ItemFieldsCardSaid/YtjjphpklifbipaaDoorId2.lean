/- Both Appends. Conditions: an item that can be, or none; bounds. -/
import Derived.Test.YtjjphpklifbipaaDoorId1
namespace Go.Proofs.YtjjphpklifbipaaDoor.Ia
open Go.ChangeShapes Go.WideShapes Go.ChangeAt Go.RowKit
set_option maxHeartbeats 8000000 in
set_option maxRecDepth 100000 in
theorem app_fits (w : World) (k : Int) (t u : ByteArray) (v : Value) (s : ByteArray) (hs : s.size ≤ 100000) (hu : u.size ≤ 100000) (a : Option Addr) (c len : Nat) (hv : v = .slice a len c)
    (hT : ∀ W, Calls Tryd.prog 32 #[.agg #[.int .i64 k, .string t, v], .string ⟨#[]⟩] W fun e w' => e = .returned (.tuple #[.string u, .int .i64 0]) ∧ Below W.heap.size W w') (hb : ¬ (4096 : Int) < (u.size : Int) + (s.size : Int)) :
    Calls Tryd.prog 18 #[.agg #[.int .i64 k, .string t, v], .string s] w fun e w' => e = .returned (.tuple #[.agg #[.int .i64 1, .string (u ++ s), .slice none 0 0], .int .i64 0]) ∧ Below w.heap.size w w' := by
  subst hv
  have HT := Lib.hid hT
  have HD := Lib.hid (fun O => Cell3.new2 (w.alloc O) (w.heap.size + 1) (by simp) (.int .i64 0) (.string ⟨#[]⟩) (.slice none 0 0) 24)
  clear hT
  go_enter Tryd.func18, Tryd.ntmps18
  go_wp2_with fail
  refine (HT.out _).mono ?_
  rintro e w2 ⟨rfl, hb2⟩
  have HB := Lib.hid (bstep (bstep (bbox _) (bbox _)) hb2)
  have HD2 := Lib.hid ((HD.out _).below hb2)
  clear hb2
  go_wp2_with fail
  refine (textItem_calls _ (u ++ s)).mono ?_
  rintro e w3 ⟨rfl, hb3⟩
  have HB3 := Lib.hid (bstep HB.out hb3)
  have HD3 := Lib.hid (HD2.out.below hb3)
  have d0 := HD3.out.c0
  have d1 := HD3.out.c1
  have d2 := HD3.out.c2
  have g0 := HD3.out.f 0 (by omega)
  have g1 := HD3.out.f 1 (by omega)
  have g2 := HD3.out.f 2 (by omega)
  clear hb3
  go_wp2_with fail
  exact bodyPost_ret (v := .tuple #[.agg #[.int .i64 1, .string (u ++ s), .slice none 0 0], .int .i64 0]) (by simp [results, Tryd.results18, go_sem, d0, d1, d2]) rfl
    ⟨rfl, bset3 HB3.out (by omega) _ _ _⟩
set_option maxHeartbeats 8000000 in
set_option maxRecDepth 100000 in
theorem app_not (w : World) (k : Int) (t u : ByteArray) (s : ByteArray) (hs : s.size ≤ 100000) (hu : u.size ≤ 100000) (a : Option Addr) (c len : Nat) (l : List Fd) (hlen : len = l.length) (hl : l.length ≤ 1000000) (hI : InF w a l) (e1 : Int)
    (hT : ∀ W, Calls Tryd.prog 32 #[.agg #[.int .i64 k, .string t, .slice a len c], .string ⟨#[]⟩] W fun e w' => e = .returned (.tuple #[.string u, .int .i64 e1]) ∧ Below W.heap.size W w') (e2 : Int) (hb : ((e1 != 0) = true ∧ e2 = e1) ∨ (e1 = 0 ∧ (4096 : Int) < (u.size : Int) + (s.size : Int) ∧ e2 = 94)) :
    Calls Tryd.prog 18 #[.agg #[.int .i64 k, .string t, .slice a len c], .string s] w fun e w' => ∃ v, e = .returned (.tuple #[v, .int .i64 e2]) ∧ ItV w' v ⟨k, t, l⟩ ∧ Below w.heap.size w w' := by
  subst hlen
  have HT := Lib.hid hT
  have HCp := Lib.hid (fun W (h : Below w.heap.size w W) => copy_calls W k t a c _ l rfl (hI.below (Nat.le_refl _) h) hl)
  have HC := Lib.hid (fun O => (Cell3.new w (.int .i64 k) (.string t) (.slice a l.length c) 24).alloc O)
  have HD := Lib.hid (fun O => Cell3.new2 (w.alloc O) (w.heap.size + 1) (by simp) (.int .i64 0) (.string ⟨#[]⟩) (.slice none 0 0) 24)
  clear hT hI
  rcases hb with ⟨hb, rfl⟩ | ⟨rfl, hb, rfl⟩
  all_goals
    go_enter Tryd.func18, Tryd.ntmps18
    go_wp2_with fail
    refine (HT.out _).mono ?_
    rintro e w2 ⟨rfl, hb2⟩
    have HB := Lib.hid (bstep (bstep (bbox _) (bbox _)) hb2)
    have HC2 := Lib.hid ((HC.out _).below hb2)
    have HD2 := Lib.hid ((HD.out _).below hb2)
    have c0 := HC2.out.c0
    have c1 := HC2.out.c1
    have c2 := HC2.out.c2
    clear hb2
    go_wp2_with fail
    refine (HCp.out _ HB.out).mono ?_
    rintro e w3 ⟨v, rfl, hR⟩
    have HD3 := Lib.hid (HD2.out.below hR.bel)
    have d0 := HD3.out.c0
    have d1 := HD3.out.c1
    have d2 := HD3.out.c2
    have g0 := HD3.out.f 0 (by omega)
    have g1 := HD3.out.f 1 (by omega)
    have g2 := HD3.out.f 2 (by omega)
    obtain ⟨sa, sc, rfl, -, -, -⟩ := hR.slice
    have hRs := hR.sets3 (wa := w) (b := w.heap.size + 1) (by omega) HD2.out.lt HB.out
    have HRs := Lib.hid hRs
    clear hR hRs
    go_wp2_with fail
    first
      | exact bodyPost_ret (v := .tuple #[.agg #[.int .i64 k, .string t, .slice sa l.length sc], .int .i64 e2]) (by simp [results, Tryd.results18, go_sem, d0, d1, d2]) rfl ⟨_, rfl, (HRs.out _ _ _).itv k t, (HRs.out _ _ _).bel⟩
      | exact bodyPost_ret (v := .tuple #[.agg #[.int .i64 k, .string t, .slice sa l.length sc], .int .i64 94]) (by simp [results, Tryd.results18, go_sem, d0, d1, d2]) rfl ⟨_, rfl, (HRs.out _ _ _).itv k t, (HRs.out _ _ _).bel⟩
      | exact bodyPost_ret (v := .tuple #[.agg #[.int .i64 k, .string t, .slice sa l.length sc], .int .i64 e1]) (by simp [results, Tryd.results18, go_sem, d0, d1, d2]) rfl ⟨_, rfl, (HRs.out _ _ _).itv k t, (HRs.out _ _ _).bel⟩
set_option maxHeartbeats 8000000 in
set_option maxRecDepth 100000 in
theorem refApp_calls (w : World) (k : Int) (t s : ByteArray) (hs : s.size ≤ 100000) (ht : t.size ≤ 100000) (a : Option Addr) (c len : Nat) (l : List Fd) (hlen : len = l.length) (hcap : l.length ≤ c) (hcap2 : c ≤ 9223372036854775807) (hI : InF w a l) (r : It) (e2 : Int)
    (hb : (k = 2 ∧ e2 = 91 ∧ r = ⟨k, t, l⟩) ∨ (k ≠ 2 ∧ (4096 : Int) < (t.size : Int) + (s.size : Int) ∧ e2 = 94 ∧ r = ⟨k, t, l⟩) ∨ (k ≠ 2 ∧ ¬ (4096 : Int) < (t.size : Int) + (s.size : Int) ∧ e2 = 0 ∧ r = ⟨1, t ++ s, []⟩)) :
    Calls Tryd.prog 19 #[.agg #[.int .i64 k, .string t, .slice a len c], .string s] w fun e w' => ∃ v, e = .returned (.tuple #[v, .int .i64 e2]) ∧ ItV w' v r ∧ Below w.heap.size w w' := by
  subst hlen
  have HV := Lib.hid (itv_mk (k := k) (t := t) hcap hcap2 hI)
  clear hI hcap
  rcases hb with ⟨rfl, rfl, rfl⟩ | ⟨hk, hb, rfl, rfl⟩ | ⟨hk, hb, rfl, rfl⟩
  · go_enter Tryd.func19, Tryd.ntmps19
    go_wp2_with fail
    exact bodyPost_ret (v := .tuple #[.agg #[.int .i64 2, .string t, .slice a l.length c], .int .i64 91]) (by simp [results, Tryd.results19, go_sem]) rfl ⟨_, rfl, HV.out.below (bstep (bbox _) (bbox _)), bstep (bbox _) (bbox _)⟩
  · have hkb : (k == 2) = false := by rw [beq_eq_false_iff_ne]; exact hk
    clear hk
    go_enter Tryd.func19, Tryd.ntmps19
    go_wp2_with fail
    exact bodyPost_ret (v := .tuple #[.agg #[.int .i64 k, .string t, .slice a l.length c], .int .i64 94]) (by simp [results, Tryd.results19, go_sem]) rfl ⟨_, rfl, HV.out.below (bstep (bbox _) (bbox _)), bstep (bbox _) (bbox _)⟩
  · have hkb : (k == 2) = false := by rw [beq_eq_false_iff_ne]; exact hk
    clear hk
    go_enter Tryd.func19, Tryd.ntmps19
    go_wp2_with fail
    exact bodyPost_ret (v := .tuple #[.agg #[.int .i64 1, .string (t ++ s), .slice none 0 0], .int .i64 0]) (by simp [results, Tryd.results19, go_sem]) rfl ⟨_, rfl, ⟨none, 0, rfl, Nat.zero_le _, Nat.zero_le _, InF.nil _ _⟩, bstep (bbox _) (bbox _)⟩
theorem app_both (i : It) (hf : Fit i) (s : ByteArray) (hs : s.size ≤ 5000) : ∃ r e, Two2 18 19 (arg1 i s) i r e := by
  obtain ⟨k, t, l⟩ := i
  have ht : t.size ≤ 4096 := hf.tlen
  have hlen : l.length ≤ 256 := hf.len
  have hkd := hf.kinds
  by_cases hk2 : k = 2
  · subst hk2
    exact ⟨⟨2, t, l⟩, 91, fun W a c hI hc hc2 => app_not W 2 t ⟨#[]⟩ s (by omega) (by decide) a c _ l rfl (by omega) hI 91 (fun W' => textOf_calls W' 2 t ⟨#[]⟩ _ ⟨#[]⟩ 91 rfl) 91 (.inl ⟨rfl, rfl⟩), fun W a c hI hc hc2 => refApp_calls W 2 t s (by omega) (by omega) a c _ l rfl hc hc2 hI _ 91 (.inl ⟨rfl, rfl, rfl⟩)⟩
  · have hT : ∀ v W, Calls Tryd.prog 32 #[.agg #[.int .i64 k, .string t, v], .string ⟨#[]⟩] W fun e w' => e = .returned (.tuple #[.string t, .int .i64 0]) ∧ Below W.heap.size W w' := by
      intro v W
      rcases hkd with h | h | h
      · have e : k = 1 := h.1
        subst e
        exact textOf_calls W 1 t ⟨#[]⟩ v t 0 rfl
      · exact absurd h.1 hk2
      · have e : k = 0 := h.1
        have e2 : t = ⟨#[]⟩ := h.2.1
        subst e e2
        exact textOf_calls W 0 ⟨#[]⟩ ⟨#[]⟩ v ⟨#[]⟩ 0 rfl
    by_cases hb : (4096 : Int) < (t.size : Int) + (s.size : Int)
    · exact ⟨⟨k, t, l⟩, 94, fun W a c hI hc hc2 => app_not W k t t s (by omega) (by omega) a c _ l rfl (by omega) hI 0 (hT _) 94 (.inr ⟨rfl, hb, rfl⟩), fun W a c hI hc hc2 => refApp_calls W k t s (by omega) (by omega) a c _ l rfl hc hc2 hI _ 94 (.inr (.inl ⟨hk2, hb, rfl, rfl⟩))⟩
    · refine ⟨⟨1, t ++ s, []⟩, 0, fun W a c hI hc hc2 => (app_fits W k t t _ s (by omega) (by omega) a c _ rfl (hT _) hb).mono ?_, fun W a c hI hc hc2 => refApp_calls W k t s (by omega) (by omega) a c _ l rfl hc hc2 hI _ 0 (.inr (.inr ⟨hk2, hb, rfl, rfl⟩))⟩
      rintro e w' ⟨rfl, hb⟩
      exact ⟨_, rfl, ⟨none, 0, rfl, Nat.zero_le _, Nat.zero_le _, InF.nil _ _⟩, hb⟩
end Go.Proofs.YtjjphpklifbipaaDoor.Ia
