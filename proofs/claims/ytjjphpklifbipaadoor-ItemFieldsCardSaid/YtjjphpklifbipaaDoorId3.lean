/- The walk of the law ItemTexts: true, at any item and any two texts. -/
import Derived.Test.YtjjphpklifbipaaDoorId2
namespace Go.Proofs.YtjjphpklifbipaaDoor.Ia
open Go.ChangeShapes Go.WideShapes Go.ChangeAt Go.RowKit
/-- An item in a box. -/
structure Bx (W : World) (N : Nat) (i : It) (a : Option Addr) (c : Nat) : Prop where
  cells : Cell3 W N (.int .i64 i.k) (.string i.t) (.slice a i.l.length c)
  inF : InF W a i.l
  cap : i.l.length ≤ c
  cap2 : c ≤ 9223372036854775807
  top : ∀ o, 3 ≤ o → W.cell? ⟨N, o, none⟩ = none
theorem Bx.below {W W' : World} {N : Nat} {i : It} {a : Option Addr} {c : Nat} (h : Bx W N i a c) (hb : Below W.heap.size W W') : Bx W' N i a c := ⟨h.cells.below hb, h.inF.below (Nat.le_refl _) hb, h.cap, h.cap2, fun o ho => (hb.cell (p := ⟨N, o, none⟩) h.cells.lt).trans (h.top o ho)⟩
theorem Bx.alloc {W : World} {N : Nat} {i : It} {a : Option Addr} {c : Nat} (h : Bx W N i a c) (O : Obj) : Bx (W.alloc O) N i a c := h.below (bbox O)
theorem Bx.new {W : World} {i : It} {a : Option Addr} {c : Nat} (hI : InF W a i.l) (h1 : i.l.length ≤ c) (h2 : c ≤ 9223372036854775807) (T : TypeId) : Bx (W.alloc (.cells #[.int .i64 i.k, .string i.t, .slice a i.l.length c] T)) W.heap.size i a c :=
  ⟨Cell3.new W _ _ _ T, hI.below (Nat.le_refl _) (bbox _), h1, h2, fun o ho => by rw [World.cell?_alloc_new]; exact Array.getElem?_eq_none (by simpa using ho)⟩
theorem refSame_true (W : World) (i : It) (a b : Option Addr) (c d : Nat) (hl : i.l.length ≤ 9223372036854775807) (hI : InF W a i.l) (hJ : InF W b i.l) :
    Calls Tryd.prog 14 #[.agg #[.int .i64 i.k, .string i.t, .slice a i.l.length c], .agg #[.int .i64 i.k, .string i.t, .slice b i.l.length d]] W fun e w' => e = .returned (.bool true) ∧ Below W.heap.size W w' :=
  refSame_calls W i.k i.k i.t i.t a b c d _ _ i.l i.l rfl rfl hl hl hI hJ true ⟨fun _ => ⟨rfl, rfl, rfl⟩, fun _ => rfl⟩
theorem InF.setBox {W : World} {a : Option Addr} {l : List Fd} {N : Nat} {k : Int} {t : ByteArray} {x : Option Addr} {y z : Nat} (h : InF W a l) (hc : Cell3 W N (.int .i64 k) (.string t) (.slice x y z)) (ht : ∀ o, 3 ≤ o → W.cell? ⟨N, o, none⟩ = none) (u0 u1 u2 : Value) : InF (((W.setCell ⟨N, 0, none⟩ u0).setCell ⟨N, 1, none⟩ u1).setCell ⟨N, 2, none⟩ u2) a l := fun hp => by
  obtain ⟨b, o, rfl, hlt, hcs⟩ := h hp
  have hne : b ≠ N := by
    rintro rfl
    obtain ⟨s0, s1⟩ := hcs 0 hp
    rw [Nat.zero_mul, Nat.add_zero] at s0 s1
    have c0 := hc.c0
    have c2 := hc.c2
    by_cases h0 : o = 0
    · rw [h0, c0] at s0; cases s0
    · by_cases h1 : o = 1
      · rw [h1, c2] at s1; cases s1
      · by_cases h2 : o = 2
        · rw [h2, c2] at s0; cases s0
        · rw [ht o (by omega)] at s0; cases s0
  have e : ∀ j, (((W.setCell ⟨N, 0, none⟩ u0).setCell ⟨N, 1, none⟩ u1).setCell ⟨N, 2, none⟩ u2).cell? ⟨b, j, none⟩ = W.cell? ⟨b, j, none⟩ := fun j =>
    World.cell?_of_block (a := ⟨b, j, none⟩) (((Below.heap_setCell _ ⟨N, 2, none⟩ u2 b hne).trans (Below.heap_setCell _ ⟨N, 1, none⟩ u1 b hne)).trans (Below.heap_setCell _ ⟨N, 0, none⟩ u0 b hne))
  refine ⟨b, o, rfl, by simpa [World.setCell] using hlt, fun i hi => ?_⟩
  rw [e, e]
  exact hcs i hi
theorem Cell3.set3 {W : World} {N : Nat} {v0 v1 v2 : Value} (h : Cell3 W N v0 v1 v2) (u0 u1 u2 : Value) : Cell3 (((W.setCell ⟨N, 0, none⟩ u0).setCell ⟨N, 1, none⟩ u1).setCell ⟨N, 2, none⟩ u2) N u0 u1 u2 := by
  have c0 := h.c0
  have c1 := h.c1
  have c2 := h.c2
  refine ⟨by have := h.lt; simpa [World.setCell] using this, ?_, ?_, ?_, fun j hj => ((frozen_set _ _ _ _).trans (frozen_set _ _ _ _)).trans ((frozen_set _ _ _ _).trans (h.f j hj))⟩ <;> go_simp
theorem top3 (W : World) (N M o : Nat) (u0 u1 u2 : Value) (h : 3 ≤ o ∨ M ≠ N) : (((W.setCell ⟨N, 0, none⟩ u0).setCell ⟨N, 1, none⟩ u1).setCell ⟨N, 2, none⟩ u2).cell? ⟨M, o, none⟩ = W.cell? ⟨M, o, none⟩ := by
  have hn : ∀ j, j < 3 → (⟨N, j, none⟩ : Addr) ≠ ⟨M, o, none⟩ := fun j hj e => by
    injection e with e1 e2
    omega
  rw [World.cell?_setCell_other _ _ _ _ (hn 2 (by omega)), World.cell?_setCell_other _ _ _ _ (hn 1 (by omega)), World.cell?_setCell_other _ _ _ _ (hn 0 (by omega))]
theorem Bx.set {W : World} {N : Nat} {i j : It} {a a2 : Option Addr} {c c2 : Nat} (h : Bx W N i a c) (hI : InF W a2 j.l) (h1 : j.l.length ≤ c2) (h2 : c2 ≤ 9223372036854775807) :
    Bx (((W.setCell ⟨N, 0, none⟩ (.int .i64 j.k)).setCell ⟨N, 1, none⟩ (.string j.t)).setCell ⟨N, 2, none⟩ (.slice a2 j.l.length c2)) N j a2 c2 := ⟨h.cells.set3 _ _ _, hI.setBox h.cells h.top _ _ _, h1, h2, fun o ho => (top3 W N N o _ _ _ (.inl ho)).trans (h.top o ho)⟩
theorem Bx.other {W : World} {N M : Nat} {i j : It} {a a2 : Option Addr} {c c2 : Nat} (h : Bx W M i a c) (hN : Bx W N j a2 c2) (hne : M ≠ N) (u0 u1 u2 : Value) :
    Bx (((W.setCell ⟨N, 0, none⟩ u0).setCell ⟨N, 1, none⟩ u1).setCell ⟨N, 2, none⟩ u2) M i a c := ⟨((h.cells.setOther hne u0).setOther hne u1).setOther hne u2, h.inF.setBox hN.cells hN.top _ _ _, h.cap, h.cap2, fun o ho => (top3 W N M o _ _ _ (.inl ho)).trans (h.top o ho)⟩
set_option maxHeartbeats 16000000 in
set_option maxRecDepth 100000 in
theorem itemTexts (w : World) (hc : Ctx w) (i : It) (a : Option Addr) (c : Nat) (hI : InF w a i.l) (hcap : i.l.length ≤ c) (hcap2 : c ≤ 9223372036854775807) (n s : ByteArray) (hn9 : n.size ≤ 9223372036854775807) (hs9 : s.size ≤ 9223372036854775807) :
    Calls Tryd.prog 4 #[.agg #[.int .i64 i.k, .string i.t, .slice a i.l.length c], .string n, .string s] w fun e w' => e = .returned (.bool true) ∧ Below w.heap.size w w' := by
  have H := Lib.hid hc
  have HI := Lib.hid (fun W (h : Below w.heap.size w W) => hI.below (Nat.le_refl _) h)
  have HB0 := Lib.hid (fun T => Bx.new (W := w) hI hcap hcap2 T)
  obtain ⟨bf0, hbf⟩ := some_b (Fit i)
  have HBf := Lib.hid hbf
  have HG := Lib.hid (fun W (h : Below w.heap.size w W) => great_calls W i.k i.t a c _ i.l rfl (hI.below (Nat.le_refl _) h))
  have HFt := Lib.hid (fun W (h : Below w.heap.size w W) => fits_calls W i.k i.t a c _ i.l rfl (hI.below (Nat.le_refl _) h) bf0 hbf)
  have HSm := Lib.hid refSame_true
  clear hc hI hbf
  go_enter Tryd.func4, Tryd.ntmps4
  go_wp2_with fail
  refine (alive_calls _ (H.out.below (bbox _))).mono ?_
  rintro e w1 ⟨rfl, hb⟩
  have X3 := Lib.hid ((HB0.out _).below hb)
  have B := Lib.hid (bstep (bbox _) hb)
  clear hb HB0
  have c0 := X3.out.cells.c0
  have c1 := X3.out.cells.c1
  have c2 := X3.out.cells.c2
  go_wp2_with fail
  refine (HG.out _ B.out).mono ?_
  rintro e w2 ⟨he, hb⟩
  have X3 := Lib.hid (X3.out.below hb)
  have B := Lib.hid (bstep B.out hb)
  clear hb c0 c1 c2
  have c0 := X3.out.cells.c0
  have c1 := X3.out.cells.c1
  have c2 := X3.out.cells.c2
  rcases he with rfl | ⟨rfl, hok⟩
  · go_wp2_with fail
    go_ret
    exact ⟨rfl, B.out⟩
  have HOk := Lib.hid hok
  clear hok
  go_wp2_with fail
  refine (HFt.out _ B.out).mono ?_
  rintro e w3 ⟨rfl, hb⟩
  have X3 := Lib.hid (X3.out.below hb)
  have B := Lib.hid (bstep B.out hb)
  clear hb c0 c1 c2
  have c0 := X3.out.cells.c0
  have c1 := X3.out.cells.c1
  have c2 := X3.out.cells.c2
  cases bf0 with
  | false =>
    go_wp2_with fail
    go_ret
    exact ⟨rfl, B.out⟩
  | true =>
  have HF := Lib.hid (HBf.out.1 rfl)
  by_cases hn : 600 < n.size
  · have hnc : (600 : Int) < (n.size : Int) := by omega
    go_wp2_with fail
    go_ret
    exact ⟨rfl, B.out⟩
  have hnc : ¬ (600 : Int) < (n.size : Int) := by omega
  by_cases hs : 5000 < s.size
  · have hsc : (5000 : Int) < (s.size : Int) := by omega
    go_wp2_with fail
    go_ret
    exact ⟨rfl, B.out⟩
  have hsc : ¬ (5000 : Int) < (s.size : Int) := by omega
  have HCp := Lib.hid (fun W (h : Below w.heap.size w W) => copy_calls W i.k i.t a c _ i.l rfl (HI.out W h) (by have := HF.out.len; omega))
  obtain ⟨ra, ea, hA⟩ := app_both i HF.out s (by omega)
  obtain ⟨gs, gb, ge, hG1, hG2⟩ := get_both i HF.out n
  obtain ⟨rp, pb, pe, hP⟩ := put_both i HF.out n s
  obtain ⟨rd, db, de, hD⟩ := drop_both i HF.out n
  have HA1 := Lib.hid (fun W (h : Below w.heap.size w W) => hA.1 W a c (HI.out W h) hcap hcap2)
  have HA2 := Lib.hid (fun W (h : Below w.heap.size w W) => hA.2 W a c (HI.out W h) hcap hcap2)
  have HG1 := Lib.hid (fun W (h : Below w.heap.size w W) => hG1 W a c (HI.out W h) hcap hcap2)
  have HG2 := Lib.hid (fun W (h : Below w.heap.size w W) => hG2 W a c (HI.out W h) hcap hcap2)
  have HP1 := Lib.hid (fun W (h : Below w.heap.size w W) => hP.1 W a c (HI.out W h) hcap hcap2)
  have HP2 := Lib.hid (fun W (h : Below w.heap.size w W) => hP.2 W a c (HI.out W h) hcap hcap2)
  have HD1 := Lib.hid (fun W (h : Below w.heap.size w W) => hD.1 W a c (HI.out W h) hcap hcap2)
  have HD2 := Lib.hid (fun W (h : Below w.heap.size w W) => hD.2 W a c (HI.out W h) hcap hcap2)
  clear hA hG1 hG2 hP hD HBf HFt HG
  go_wp2_with fail
  refine (HCp.out _ B.out).mono ?_
  rintro e w4 ⟨v, rfl, hR⟩
  have X3 := Lib.hid (X3.out.below hR.bel)
  have B := Lib.hid (bstep B.out hR.bel)
  obtain ⟨a7, c7, rfl, h71, h72, h73⟩ := hR.slice
  have X7 := Lib.hid (fun T => Bx.new (W := w4) (i := i) h73 h71 h72 T)
  have X3 := Lib.hid (fun O => X3.out.alloc O)
  have B := Lib.hid (fun O => bstep B.out (bbox (w := w4) O))
  clear hR c0 c1 c2 h71 h72 h73 HCp
  have x3a := fun O => (X3.out O).cells.c0
  have x3b := fun O => (X3.out O).cells.c1
  have x3c := fun O => (X3.out O).cells.c2
  go_wp2_with fail
  refine (HA1.out _ (B.out _)).mono ?_
  rintro e w5 ⟨v, rfl, hv, hb⟩
  clear x3a x3b x3c
  have X3 := Lib.hid ((X3.out _).below hb)
  have X7 := Lib.hid ((X7.out _).below hb)
  have B := Lib.hid (bstep (B.out _) hb)
  generalize w4.heap.size = N7 at *
  clear hb
  obtain ⟨a8, c8, rfl, h81, h82, h83⟩ := hv
  have X8 := Lib.hid (fun T => Bx.new (W := w5) (i := ra) h83 h81 h82 T)
  have hlt38 : w.heap.size < w5.heap.size := X3.out.cells.lt
  have X3 := Lib.hid (fun O => X3.out.alloc O)
  have hlt78 : N7 < w5.heap.size := X7.out.cells.lt
  have X7 := Lib.hid (fun O => X7.out.alloc O)
  have B := Lib.hid (fun O => bstep B.out (bbox (w := w5) O))
  clear h81 h82 h83
  have x3a := fun O => (X3.out O).cells.c0
  have x3b := fun O => (X3.out O).cells.c1
  have x3c := fun O => (X3.out O).cells.c2
  have x7a := fun O => (X7.out O).cells.c0
  have x7b := fun O => (X7.out O).cells.c1
  have x7c := fun O => (X7.out O).cells.c2
  have x8a := fun O => (X8.out O).cells.c0
  have x8b := fun O => (X8.out O).cells.c1
  have x8c := fun O => (X8.out O).cells.c2
  go_wp2_with fail
  refine (HA2.out _ (B.out _)).mono ?_
  rintro e w6 ⟨v, rfl, hv, hb⟩
  clear x3a x3b x3c x7a x7b x7c x8a x8b x8c
  have X3 := Lib.hid ((X3.out _).below hb)
  have X7 := Lib.hid ((X7.out _).below hb)
  have X8 := Lib.hid ((X8.out _).below hb)
  have B := Lib.hid (bstep (B.out _) hb)
  generalize w5.heap.size = N8 at *
  clear hb
  obtain ⟨a10, c10, rfl, h101, h102, h103⟩ := hv
  have X10 := Lib.hid (fun T => Bx.new (W := w6) (i := ra) h103 h101 h102 T)
  have hlt310 : w.heap.size < w6.heap.size := X3.out.cells.lt
  have X3 := Lib.hid (fun O => X3.out.alloc O)
  have hlt710 : N7 < w6.heap.size := X7.out.cells.lt
  have X7 := Lib.hid (fun O => X7.out.alloc O)
  have hlt810 : N8 < w6.heap.size := X8.out.cells.lt
  have X8 := Lib.hid (fun O => X8.out.alloc O)
  have B := Lib.hid (fun O => bstep B.out (bbox (w := w6) O))
  clear h101 h102 h103
  have x3a := fun O => (X3.out O).cells.c0
  have x3b := fun O => (X3.out O).cells.c1
  have x3c := fun O => (X3.out O).cells.c2
  have x7a := fun O => (X7.out O).cells.c0
  have x7b := fun O => (X7.out O).cells.c1
  have x7c := fun O => (X7.out O).cells.c2
  have x8a := fun O => (X8.out O).cells.c0
  have x8b := fun O => (X8.out O).cells.c1
  have x8c := fun O => (X8.out O).cells.c2
  have x10a := fun O => (X10.out O).cells.c0
  have x10b := fun O => (X10.out O).cells.c1
  have x10c := fun O => (X10.out O).cells.c2
  go_wp2_with fail
  refine (HSm.out _ ra a8 a10 c8 c10 (by have := (X8.out default).cap; have := (X8.out default).cap2; omega) (X8.out _).inF (X10.out _).inF).mono ?_
  rintro e w7 ⟨rfl, hb⟩
  clear x10a x10b x10c x3a x3b x3c x7a x7b x7c x8a x8b x8c
  have X3 := Lib.hid ((X3.out _).below hb)
  have X7 := Lib.hid ((X7.out _).below hb)
  have X8 := Lib.hid ((X8.out _).below hb)
  have X10 := Lib.hid ((X10.out _).below hb)
  have B := Lib.hid (bstep (B.out _) hb)
  generalize w6.heap.size = N10 at *
  clear hb
  have x3a := X3.out.cells.c0
  have x3b := X3.out.cells.c1
  have x3c := X3.out.cells.c2
  have x7a := X7.out.cells.c0
  have x7b := X7.out.cells.c1
  have x7c := X7.out.cells.c2
  have x8a := X8.out.cells.c0
  have x8b := X8.out.cells.c1
  have x8c := X8.out.cells.c2
  have x10a := X10.out.cells.c0
  have x10b := X10.out.cells.c1
  have x10c := X10.out.cells.c2
  go_wp2_with fail
  refine (HG1.out _ B.out).mono ?_
  rintro e w8 ⟨rfl, hb⟩
  clear x10a x10b x10c x3a x3b x3c x7a x7b x7c x8a x8b x8c
  have X3 := Lib.hid (X3.out.below hb)
  have X7 := Lib.hid (X7.out.below hb)
  have X8 := Lib.hid (X8.out.below hb)
  have X10 := Lib.hid (X10.out.below hb)
  have B := Lib.hid (bstep B.out hb)
  clear hb
  have x3a := X3.out.cells.c0
  have x3b := X3.out.cells.c1
  have x3c := X3.out.cells.c2
  have x7a := X7.out.cells.c0
  have x7b := X7.out.cells.c1
  have x7c := X7.out.cells.c2
  have x8a := X8.out.cells.c0
  have x8b := X8.out.cells.c1
  have x8c := X8.out.cells.c2
  have x10a := X10.out.cells.c0
  have x10b := X10.out.cells.c1
  have x10c := X10.out.cells.c2
  go_wp2_with fail
  refine (HG2.out _ B.out).mono ?_
  rintro e w9 ⟨rfl, hb⟩
  clear x10a x10b x10c x3a x3b x3c x7a x7b x7c x8a x8b x8c
  have X3 := Lib.hid (X3.out.below hb)
  have X7 := Lib.hid (X7.out.below hb)
  have X8 := Lib.hid (X8.out.below hb)
  have X10 := Lib.hid (X10.out.below hb)
  have B := Lib.hid (bstep B.out hb)
  clear hb
  have x3a := X3.out.cells.c0
  have x3b := X3.out.cells.c1
  have x3c := X3.out.cells.c2
  have x7a := X7.out.cells.c0
  have x7b := X7.out.cells.c1
  have x7c := X7.out.cells.c2
  have x8a := X8.out.cells.c0
  have x8b := X8.out.cells.c1
  have x8c := X8.out.cells.c2
  have x10a := X10.out.cells.c0
  have x10b := X10.out.cells.c1
  have x10c := X10.out.cells.c2
  go_wp2_with fail
  refine (HP1.out _ B.out).mono ?_
  rintro e w10 ⟨v, rfl, hv, hb⟩
  clear x10a x10b x10c x3a x3b x3c x7a x7b x7c x8a x8b x8c
  have X3 := Lib.hid (X3.out.below hb)
  have X7 := Lib.hid (X7.out.below hb)
  have X8 := Lib.hid (X8.out.below hb)
  have X10 := Lib.hid (X10.out.below hb)
  have B := Lib.hid (bstep B.out hb)
  clear hb
  obtain ⟨a18, c18, rfl, h181, h182, h183⟩ := hv
  have X18 := Lib.hid (fun T => Bx.new (W := w10) (i := rp) h183 h181 h182 T)
  have hlt318 : w.heap.size < w10.heap.size := X3.out.cells.lt
  have X3 := Lib.hid (fun O => X3.out.alloc O)
  have hlt718 : N7 < w10.heap.size := X7.out.cells.lt
  have X7 := Lib.hid (fun O => X7.out.alloc O)
  have hlt818 : N8 < w10.heap.size := X8.out.cells.lt
  have X8 := Lib.hid (fun O => X8.out.alloc O)
  have hlt1018 : N10 < w10.heap.size := X10.out.cells.lt
  have X10 := Lib.hid (fun O => X10.out.alloc O)
  have B := Lib.hid (fun O => bstep B.out (bbox (w := w10) O))
  clear h181 h182 h183
  have x3a := fun O => (X3.out O).cells.c0
  have x3b := fun O => (X3.out O).cells.c1
  have x3c := fun O => (X3.out O).cells.c2
  have x7a := fun O => (X7.out O).cells.c0
  have x7b := fun O => (X7.out O).cells.c1
  have x7c := fun O => (X7.out O).cells.c2
  have x8a := fun O => (X8.out O).cells.c0
  have x8b := fun O => (X8.out O).cells.c1
  have x8c := fun O => (X8.out O).cells.c2
  have x10a := fun O => (X10.out O).cells.c0
  have x10b := fun O => (X10.out O).cells.c1
  have x10c := fun O => (X10.out O).cells.c2
  have x18a := fun O => (X18.out O).cells.c0
  have x18b := fun O => (X18.out O).cells.c1
  have x18c := fun O => (X18.out O).cells.c2
  go_wp2_with fail
  refine (HP2.out _ (B.out _)).mono ?_
  rintro e w11 ⟨v, rfl, hv, hb⟩
  clear x10a x10b x10c x18a x18b x18c x3a x3b x3c x7a x7b x7c x8a x8b x8c
  have X3 := Lib.hid ((X3.out _).below hb)
  have X7 := Lib.hid ((X7.out _).below hb)
  have X8 := Lib.hid ((X8.out _).below hb)
  have X10 := Lib.hid ((X10.out _).below hb)
  have X18 := Lib.hid ((X18.out _).below hb)
  have B := Lib.hid (bstep (B.out _) hb)
  generalize w10.heap.size = N18 at *
  clear hb
  obtain ⟨a19, c19, rfl, h191, h192, h193⟩ := hv
  have X19 := Lib.hid (fun T => Bx.new (W := w11) (i := rp) h193 h191 h192 T)
  have hlt319 : w.heap.size < w11.heap.size := X3.out.cells.lt
  have X3 := Lib.hid (fun O => X3.out.alloc O)
  have hlt719 : N7 < w11.heap.size := X7.out.cells.lt
  have X7 := Lib.hid (fun O => X7.out.alloc O)
  have hlt819 : N8 < w11.heap.size := X8.out.cells.lt
  have X8 := Lib.hid (fun O => X8.out.alloc O)
  have hlt1019 : N10 < w11.heap.size := X10.out.cells.lt
  have X10 := Lib.hid (fun O => X10.out.alloc O)
  have hlt1819 : N18 < w11.heap.size := X18.out.cells.lt
  have X18 := Lib.hid (fun O => X18.out.alloc O)
  have B := Lib.hid (fun O => bstep B.out (bbox (w := w11) O))
  clear h191 h192 h193
  have x3a := fun O => (X3.out O).cells.c0
  have x3b := fun O => (X3.out O).cells.c1
  have x3c := fun O => (X3.out O).cells.c2
  have x7a := fun O => (X7.out O).cells.c0
  have x7b := fun O => (X7.out O).cells.c1
  have x7c := fun O => (X7.out O).cells.c2
  have x8a := fun O => (X8.out O).cells.c0
  have x8b := fun O => (X8.out O).cells.c1
  have x8c := fun O => (X8.out O).cells.c2
  have x10a := fun O => (X10.out O).cells.c0
  have x10b := fun O => (X10.out O).cells.c1
  have x10c := fun O => (X10.out O).cells.c2
  have x18a := fun O => (X18.out O).cells.c0
  have x18b := fun O => (X18.out O).cells.c1
  have x18c := fun O => (X18.out O).cells.c2
  have x19a := fun O => (X19.out O).cells.c0
  have x19b := fun O => (X19.out O).cells.c1
  have x19c := fun O => (X19.out O).cells.c2
  go_wp2_with fail
  refine (HSm.out _ rp a18 a19 c18 c19 (by have := (X18.out default).cap; have := (X18.out default).cap2; omega) (X18.out _).inF (X19.out _).inF).mono ?_
  rintro e w12 ⟨rfl, hb⟩
  clear x10a x10b x10c x18a x18b x18c x19a x19b x19c x3a x3b x3c x7a x7b x7c x8a x8b x8c
  have X3 := Lib.hid ((X3.out _).below hb)
  have X7 := Lib.hid ((X7.out _).below hb)
  have X8 := Lib.hid ((X8.out _).below hb)
  have X10 := Lib.hid ((X10.out _).below hb)
  have X18 := Lib.hid ((X18.out _).below hb)
  have X19 := Lib.hid ((X19.out _).below hb)
  have B := Lib.hid (bstep (B.out _) hb)
  generalize w11.heap.size = N19 at *
  clear hb
  have x3a := X3.out.cells.c0
  have x3b := X3.out.cells.c1
  have x3c := X3.out.cells.c2
  have x7a := X7.out.cells.c0
  have x7b := X7.out.cells.c1
  have x7c := X7.out.cells.c2
  have x8a := X8.out.cells.c0
  have x8b := X8.out.cells.c1
  have x8c := X8.out.cells.c2
  have x10a := X10.out.cells.c0
  have x10b := X10.out.cells.c1
  have x10c := X10.out.cells.c2
  have x18a := X18.out.cells.c0
  have x18b := X18.out.cells.c1
  have x18c := X18.out.cells.c2
  have x19a := X19.out.cells.c0
  have x19b := X19.out.cells.c1
  have x19c := X19.out.cells.c2
  go_wp2_with fail
  refine (HD1.out _ B.out).mono ?_
  rintro e w13 ⟨v, rfl, hv, hb⟩
  clear x10a x10b x10c x18a x18b x18c x19a x19b x19c x3a x3b x3c x7a x7b x7c x8a x8b x8c
  have X3 := Lib.hid (X3.out.below hb)
  have X7 := Lib.hid (X7.out.below hb)
  have X8 := Lib.hid (X8.out.below hb)
  have X10 := Lib.hid (X10.out.below hb)
  have X18 := Lib.hid (X18.out.below hb)
  have X19 := Lib.hid (X19.out.below hb)
  have B := Lib.hid (bstep B.out hb)
  clear hb
  obtain ⟨ad18, cd18, rfl, h181, h182, h183⟩ := hv
  have y180 := X18.out.cells.f 0 (by omega)
  have y181 := X18.out.cells.f 1 (by omega)
  have y182 := X18.out.cells.f 2 (by omega)
  have XN18 := Lib.hid (X18.out.set (j := rd) (a2 := ad18) (c2 := cd18) h183 h181 h182)
  have B := Lib.hid (fun x y z => bset3 B.out (b := N18) (by omega) x y z)
  have XN3 := Lib.hid (X3.out.other X18.out (by omega) (.int .i64 rd.k) (.string rd.t) (.slice ad18 rd.l.length cd18))
  have XN7 := Lib.hid (X7.out.other X18.out (by omega) (.int .i64 rd.k) (.string rd.t) (.slice ad18 rd.l.length cd18))
  have XN8 := Lib.hid (X8.out.other X18.out (by omega) (.int .i64 rd.k) (.string rd.t) (.slice ad18 rd.l.length cd18))
  have XN10 := Lib.hid (X10.out.other X18.out (by omega) (.int .i64 rd.k) (.string rd.t) (.slice ad18 rd.l.length cd18))
  have XN19 := Lib.hid (X19.out.other X18.out (by omega) (.int .i64 rd.k) (.string rd.t) (.slice ad18 rd.l.length cd18))
  have x18a := X18.out.cells.c0
  have x18b := X18.out.cells.c1
  have x18c := X18.out.cells.c2
  have z3a := XN3.out.cells.c0
  have z3b := XN3.out.cells.c1
  have z3c := XN3.out.cells.c2
  have z7a := XN7.out.cells.c0
  have z7b := XN7.out.cells.c1
  have z7c := XN7.out.cells.c2
  have z8a := XN8.out.cells.c0
  have z8b := XN8.out.cells.c1
  have z8c := XN8.out.cells.c2
  have z10a := XN10.out.cells.c0
  have z10b := XN10.out.cells.c1
  have z10c := XN10.out.cells.c2
  have z18a := XN18.out.cells.c0
  have z18b := XN18.out.cells.c1
  have z18c := XN18.out.cells.c2
  have z19a := XN19.out.cells.c0
  have z19b := XN19.out.cells.c1
  have z19c := XN19.out.cells.c2
  clear h181 h182 h183
  go_wp2_with fail
  clear x18a x18b x18c y180 y181 y182 z3a z3b z3c z7a z7b z7c z8a z8b z8c z10a z10b z10c z18a z18b z18c z19a z19b z19c
  have X3 := XN3
  clear XN3
  have X7 := XN7
  clear XN7
  have X8 := XN8
  clear XN8
  have X10 := XN10
  clear XN10
  have X18 := XN18
  clear XN18
  have X19 := XN19
  clear XN19
  have B := Lib.hid (B.out (.int .i64 rd.k) (.string rd.t) (.slice ad18 rd.l.length cd18))
  refine (HD2.out _ B.out).mono ?_
  rintro e w14 ⟨v, rfl, hv, hb⟩
  have X3 := Lib.hid (X3.out.below hb)
  have X7 := Lib.hid (X7.out.below hb)
  have X8 := Lib.hid (X8.out.below hb)
  have X10 := Lib.hid (X10.out.below hb)
  have X18 := Lib.hid (X18.out.below hb)
  have X19 := Lib.hid (X19.out.below hb)
  have B := Lib.hid (bstep B.out hb)
  clear hb
  obtain ⟨ad19, cd19, rfl, h191, h192, h193⟩ := hv
  have y190 := X19.out.cells.f 0 (by omega)
  have y191 := X19.out.cells.f 1 (by omega)
  have y192 := X19.out.cells.f 2 (by omega)
  have XN19 := Lib.hid (X19.out.set (j := rd) (a2 := ad19) (c2 := cd19) h193 h191 h192)
  have B := Lib.hid (fun x y z => bset3 B.out (b := N19) (by omega) x y z)
  have XN3 := Lib.hid (X3.out.other X19.out (by omega) (.int .i64 rd.k) (.string rd.t) (.slice ad19 rd.l.length cd19))
  have XN7 := Lib.hid (X7.out.other X19.out (by omega) (.int .i64 rd.k) (.string rd.t) (.slice ad19 rd.l.length cd19))
  have XN8 := Lib.hid (X8.out.other X19.out (by omega) (.int .i64 rd.k) (.string rd.t) (.slice ad19 rd.l.length cd19))
  have XN10 := Lib.hid (X10.out.other X19.out (by omega) (.int .i64 rd.k) (.string rd.t) (.slice ad19 rd.l.length cd19))
  have XN18 := Lib.hid (X18.out.other X19.out (by omega) (.int .i64 rd.k) (.string rd.t) (.slice ad19 rd.l.length cd19))
  have x19a := X19.out.cells.c0
  have x19b := X19.out.cells.c1
  have x19c := X19.out.cells.c2
  have z3a := XN3.out.cells.c0
  have z3b := XN3.out.cells.c1
  have z3c := XN3.out.cells.c2
  have z7a := XN7.out.cells.c0
  have z7b := XN7.out.cells.c1
  have z7c := XN7.out.cells.c2
  have z8a := XN8.out.cells.c0
  have z8b := XN8.out.cells.c1
  have z8c := XN8.out.cells.c2
  have z10a := XN10.out.cells.c0
  have z10b := XN10.out.cells.c1
  have z10c := XN10.out.cells.c2
  have z18a := XN18.out.cells.c0
  have z18b := XN18.out.cells.c1
  have z18c := XN18.out.cells.c2
  have z19a := XN19.out.cells.c0
  have z19b := XN19.out.cells.c1
  have z19c := XN19.out.cells.c2
  clear h191 h192 h193
  go_wp2_with fail
  clear x19a x19b x19c y190 y191 y192 z3a z3b z3c z7a z7b z7c z8a z8b z8c z10a z10b z10c z18a z18b z18c z19a z19b z19c
  have X3 := XN3
  clear XN3
  have X7 := XN7
  clear XN7
  have X8 := XN8
  clear XN8
  have X10 := XN10
  clear XN10
  have X18 := XN18
  clear XN18
  have X19 := XN19
  clear XN19
  have B := Lib.hid (B.out (.int .i64 rd.k) (.string rd.t) (.slice ad19 rd.l.length cd19))
  refine (HSm.out _ rd ad18 ad19 cd18 cd19 (by have := X18.out.cap; have := X18.out.cap2; omega) X18.out.inF X19.out.inF).mono ?_
  rintro e w15 ⟨rfl, hb⟩
  have X3 := Lib.hid (X3.out.below hb)
  have X7 := Lib.hid (X7.out.below hb)
  have X8 := Lib.hid (X8.out.below hb)
  have X10 := Lib.hid (X10.out.below hb)
  have X18 := Lib.hid (X18.out.below hb)
  have X19 := Lib.hid (X19.out.below hb)
  have B := Lib.hid (bstep B.out hb)
  clear hb
  have x3a := X3.out.cells.c0
  have x3b := X3.out.cells.c1
  have x3c := X3.out.cells.c2
  have x7a := X7.out.cells.c0
  have x7b := X7.out.cells.c1
  have x7c := X7.out.cells.c2
  have x8a := X8.out.cells.c0
  have x8b := X8.out.cells.c1
  have x8c := X8.out.cells.c2
  have x10a := X10.out.cells.c0
  have x10b := X10.out.cells.c1
  have x10c := X10.out.cells.c2
  have x18a := X18.out.cells.c0
  have x18b := X18.out.cells.c1
  have x18c := X18.out.cells.c2
  have x19a := X19.out.cells.c0
  have x19b := X19.out.cells.c1
  have x19c := X19.out.cells.c2
  go_wp2_with fail
  refine (HSm.out _ i a a7 c c7 (by have := X3.out.cap; have := X3.out.cap2; omega) X3.out.inF X7.out.inF).mono ?_
  rintro e w16 ⟨rfl, hb⟩
  clear x10a x10b x10c x18a x18b x18c x19a x19b x19c x3a x3b x3c x7a x7b x7c x8a x8b x8c
  have X3 := Lib.hid (X3.out.below hb)
  have X7 := Lib.hid (X7.out.below hb)
  have X8 := Lib.hid (X8.out.below hb)
  have X10 := Lib.hid (X10.out.below hb)
  have X18 := Lib.hid (X18.out.below hb)
  have X19 := Lib.hid (X19.out.below hb)
  have B := Lib.hid (bstep B.out hb)
  clear hb
  have x3a := X3.out.cells.c0
  have x3b := X3.out.cells.c1
  have x3c := X3.out.cells.c2
  have x7a := X7.out.cells.c0
  have x7b := X7.out.cells.c1
  have x7c := X7.out.cells.c2
  have x8a := X8.out.cells.c0
  have x8b := X8.out.cells.c1
  have x8c := X8.out.cells.c2
  have x10a := X10.out.cells.c0
  have x10b := X10.out.cells.c1
  have x10c := X10.out.cells.c2
  have x18a := X18.out.cells.c0
  have x18b := X18.out.cells.c1
  have x18c := X18.out.cells.c2
  have x19a := X19.out.cells.c0
  have x19b := X19.out.cells.c1
  have x19c := X19.out.cells.c2
  go_wp2_with fail
  go_ret
  exact ⟨rfl, B.out⟩
end Go.Proofs.YtjjphpklifbipaaDoor.Ia
