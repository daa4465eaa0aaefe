/- item.Drop, where a field goes. -/
import Derived.Test.YtjjphpklifbipaaDoorIa8
import Derived.Deep.RegionWith
namespace Go.Proofs.YtjjphpklifbipaaDoor.Ia
open Go.ChangeShapes Go.WideShapes Go.ChangeAt Go.RowKit
set_option maxHeartbeats 8000000 in
set_option maxRecDepth 100000 in
/-- The last field goes. -/
theorem drop_last (w : World) (k : Int) (tx : ByteArray) (a : Option Addr) (c len : Nat) (n : ByteArray) (l A M B : List Fd) (hs : Split n l A M B) (hlen : len = l.length) (hl : l.length = 1) (hI : InF w a l) (hk : k = 0 ∨ k = 2) (hM : there M = true) :
    Calls Tryd.prog 24 #[.agg #[.int .i64 k, .string tx, .slice a len c], .string n] w fun e w' => e = .returned (.tuple #[.agg #[.int .i64 0, .string ⟨#[]⟩, .slice none 0 0], .bool true, .int .i64 0]) ∧ Below w.heap.size w w' := by
  subst hlen
  have HF := Lib.hid (fun W (h : Below w.heap.size w W) => find_calls W k tx a c _ n l A M B hs rfl (by omega) (hI.below (Nat.le_refl _) h) hk)
  have HC := Lib.hid (fun O => (Cell3.new w (.int .i64 k) (.string tx) (.slice a l.length c) 24).alloc O)
  have HD := Lib.hid (fun O => Cell3.new2 (w.alloc O) (w.heap.size + 1) (by simp) (.int .i64 0) (.string ⟨#[]⟩) (.slice none 0 0) 24)
  rw [hM] at HF
  have hlc : ((l.length : Int) == 1) = true := by rw [hl]; rfl
  clear hI hs hk hM hl
  go_enter Tryd.func24, Tryd.ntmps24
  go_wp2_with fail
  refine (HF.out _ (bstep (bbox _) (bbox _))).mono ?_
  rintro e w2 ⟨rfl, hb⟩
  have HB := Lib.hid (bstep (bstep (bbox _) (bbox _)) hb)
  have HC2 := Lib.hid ((HC.out _).below hb)
  have HD2 := Lib.hid ((HD.out _).below hb)
  have c0 := HC2.out.c0
  have c1 := HC2.out.c1
  have c2 := HC2.out.c2
  have d0 := HD2.out.c0
  have d1 := HD2.out.c1
  have d2 := HD2.out.c2
  have g0 := HD2.out.f 0 (by omega)
  have g1 := HD2.out.f 1 (by omega)
  have g2 := HD2.out.f 2 (by omega)
  clear hb
  go_wp2_with fail
  exact bodyPost_ret (v := .tuple #[.agg #[.int .i64 0, .string ⟨#[]⟩, .slice none 0 0], .bool true, .int .i64 0]) (by simp [results, Tryd.results24, go_sem, d0, d1, d2]) rfl
    ⟨rfl, ((HB.out.setCell (p := ⟨w.heap.size + 1, 0, none⟩) (by simp) _).setCell (p := ⟨w.heap.size + 1, 1, none⟩) (by simp) _).setCell (p := ⟨w.heap.size + 1, 2, none⟩) (by simp) _⟩
set_option maxHeartbeats 8000000 in
set_option maxRecDepth 100000 in
/-- A field goes, and others stay. -/
theorem drop_some (w : World) (k : Int) (tx : ByteArray) (a : Option Addr) (c len : Nat) (n : ByteArray) (l A M B : List Fd) (hs : Split n l A M B) (hlen : len = l.length) (hl1 : l.length ≠ 1) (hcap : l.length ≤ c) (hcap2 : c ≤ 9223372036854775807) (hl : l.length ≤ 1000) (hI : InF w a l) (hk : k = 0 ∨ k = 2) (hM : there M = true) :
    Calls Tryd.prog 24 #[.agg #[.int .i64 k, .string tx, .slice a len c], .string n] w fun e w' => ∃ v, e = .returned (.tuple #[v, .bool true, .int .i64 0]) ∧ ItV w' v ⟨2, ⟨#[]⟩, A ++ B⟩ ∧ Below w.heap.size w w' := by
  subst hlen
  have HF := Lib.hid (fun W (h : Below w.heap.size w W) => find_calls W k tx a c _ n l A M B hs rfl (by omega) (hI.below (Nat.le_refl _) h) hk)
  have HC := Lib.hid (fun O => (Cell3.new w (.int .i64 k) (.string tx) (.slice a l.length c) 24).alloc O)
  have HD := Lib.hid (fun O => Cell3.new2 (w.alloc O) (w.heap.size + 1) (by simp) (.int .i64 0) (.string ⟨#[]⟩) (.slice none 0 0) 24)
  obtain ⟨x, hMx⟩ : ∃ x, M = [(n, x)] := by
    rcases M_cases hs with h | h
    · rw [h] at hM; cases hM
    · exact h
  have hlen2 : (A ++ [(n, x)]).length = A.length + 1 := by simp
  obtain ⟨a1, c1x, r1, I1⟩ := cut_front hI (hs.e.trans (List.append_assoc _ _ _)) rfl hcap rfl
  obtain ⟨a2, c2x, r2, I2, -, -⟩ := cut_back (at' := A.length + 1) (x := A ++ [(n, x)]) (y := B) hI (by rw [hs.e, hMx]) rfl hcap hlen2.symm hcap2
  have r2 : ∀ w2 : World, Sem.run Tryd.prog (Instr.sliceAt 22 (.slice a l.length c) (some (.int .i64 (A.length + 1))) none none) w2 = .ok (.slice a2 B.length c2x) w2 := r2
  have HI1 := Lib.hid I1
  have HI2 := Lib.hid I2
  have HLN := hs.len
  have hAB : A.length + B.length ≤ 100000 := by omega
  have hAl : A.length + 1 ≤ l.length := by rw [hMx] at HLN; simp at HLN; omega
  have hAlc : (A.length : Int) + 1 ≤ (l.length : Int) := by omega
  have hwr : IntKind.i64.wrap ((A.length : Int) + 1) = (A.length : Int) + 1 := by rw [IntKind.wrap_i64]; omega
  have hpz : (0 : Int) ≤ (A.length : Int) + 1 := by omega
  have hpa : (0 : Int) ≤ (A.length : Int) := by omega
  have hpl : (A.length : Int) ≤ (l.length : Int) := by omega
  have hlc : ((l.length : Int) == 1) = false := by rw [beq_eq_false_iff_ne]; omega
  rw [hM] at HF
  clear hI hs hk hM I1 I2 HLN hMx hl1 hlen2
  go_enter Tryd.func24, Tryd.ntmps24
  go_wp2_with fail
  refine (HF.out _ (bstep (bbox _) (bbox _))).mono ?_
  rintro e w2 ⟨rfl, hb⟩
  have HB := Lib.hid (bstep (bstep (bbox _) (bbox _)) hb)
  have HC2 := Lib.hid ((HC.out _).below hb)
  have HD2 := Lib.hid ((HD.out _).below hb)
  have c0 := HC2.out.c0
  have c1 := HC2.out.c1
  have c2 := HC2.out.c2
  clear hb
  have HT := Lib.hid (two_calls w2 (w2.alloc (.cells #[.slice a1 A.length c1x, .slice a2 B.length c2x] 22)).drew (HI1.out.below (Nat.le_refl _) HB.out) (HI2.out.below (Nat.le_refl _) HB.out) hAB 22 (Below.refl _ _).drew)
  have HDv : Hid (Cell3 (w2.alloc (.cells #[.slice a1 A.length c1x, .slice a2 B.length c2x] 22)).drew (w.heap.size + 1) _ _ _) := Lib.hid ((HD2.out.alloc _).below (Below.refl _ _).drew)
  go_wp2_with fail
  go_region_with (go_at_call 36; refine HT.out.mono ?_; rintro e w3 ⟨v, rfl, hR⟩; have HD3 := Lib.hid (HDv.out.below hR.bel); have x0 := HD3.out.c0; have x1 := HD3.out.c1; have x2 := HD3.out.c2; have y0 := HD3.out.f 0 (by omega); have y1 := HD3.out.f 1 (by omega); have y2 := HD3.out.f 2 (by omega); obtain ⟨sa, sc, rfl, -, -, -⟩ := hR.slice; have HR := Lib.hid hR; clear hR)
  all_goals
    have HR2 := Lib.hid (HR.out.itvS (bstep HB.out (bstep (bbox _) (Below.refl _ _).drew)) 2 ⟨#[]⟩ (b := w.heap.size + 1) (by omega) (by have := HD2.out.lt; simp; omega) (.int .i64 2) (.string ⟨#[]⟩) (.slice sa (A ++ B).length sc))
    rw [List.length_append] at HR2
    go_wp2_with fail
    exact bodyPost_ret (v := .tuple #[.agg #[.int .i64 2, .string ⟨#[]⟩, .slice sa (A.length + B.length) sc], .bool true, .int .i64 0]) (by simp [results, Tryd.results24, go_sem, x0, x1, x2]) rfl ⟨_, rfl, HR2.out⟩
end Go.Proofs.YtjjphpklifbipaaDoor.Ia
