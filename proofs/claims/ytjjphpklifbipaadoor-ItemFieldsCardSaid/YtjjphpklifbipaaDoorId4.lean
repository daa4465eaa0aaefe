/- The walk of the law ItemChecks: true, at any two items and any text. -/
import Derived.Test.YtjjphpklifbipaaDoorId3
import Derived.BigQuiet
namespace Go.Proofs.YtjjphpklifbipaaDoor.Ia
open Go.ChangeShapes Go.WideShapes Go.ChangeAt Go.RowKit
/-- Both Costs answer the same of an item that can be. -/
theorem cost_both (i : It) (hr : RightP i) (key : ByteArray) (hk : key.size ≤ 1000) : ∃ n : Nat,
    (∀ W a c, Ctx W → InF W a i.l → Calls Tryd.prog 15 #[.string key, .agg #[.int .i64 i.k, .string i.t, .slice a i.l.length c]] W fun e w' => e = .returned (.int .i64 (n : Int)) ∧ Below W.heap.size W w') ∧
    (∀ W a c, InF W a i.l → Calls Tryd.prog 16 #[.string key, .agg #[.int .i64 i.k, .string i.t, .slice a i.l.length c]] W fun e w' => e = .returned (.int .i64 (n : Int)) ∧ Below W.heap.size W w') := by
  obtain ⟨k, t, l⟩ := i
  rcases hr with ⟨hk1, ht, hl⟩ | ⟨hk2, ht, hA⟩
  · have hk1 : k = 1 := hk1
    have ht : t.size ≤ 4096 := ht
    subst hk1
    exact ⟨_, fun W a c hc hI => cost_text W hc key t _ (by omega) (by omega), fun W a c hI => refCost_text W key t _ (by omega) (by omega)⟩
  · have hk2 : k = 2 := hk2
    subst hk2
    have hl6 : l.length ≤ 256 := hA.2.1
    have hq : ∀ j (hj : j < l.length), l[j].1.size ≤ 600 ∧ l[j].2.size ≤ 5000 := fun j hj => by
      have h1 : l[j].1.size ≤ 512 := (hA.2.2 j hj).1
      have h2 : l[j].2.size ≤ 4096 := (hA.2.2 j hj).2.1
      exact ⟨by omega, by omega⟩
    have hs : sumC l ≤ 100000000 := by
      have h1 := sumC_bound l hq
      omega
    exact ⟨_, fun W a c hc hI => cost_hash W key t a c _ l rfl (by omega) hs (by omega) hI, fun W a c hI => refCost_hash W key t a c _ l rfl (by omega) hs (by omega) hI⟩
/-- Fields in a row of one's own: another text for the first. -/
theorem RowF.poke {wb w : World} {g c : Nat} {f : Fd} {l : List Fd} (h : RowF wb w (.slice (some ⟨g, 0, none⟩) (l.length + 1) c) (f :: l)) (u : ByteArray) :
    InF (w.setCell ⟨g, 1, none⟩ (.string u)) (some ⟨g, 0, none⟩) ((f.1, u) :: l) ∧ wb.heap.size ≤ g ∧ w.cell? ⟨g, 0, none⟩ = some (.string f.1) ∧ w.cell? ⟨g, 1, none⟩ = some (.string f.2) ∧ w.frozen? ⟨g, 1, none⟩ = false := by
  obtain ⟨a, c2, e, -, -, hI⟩ := h.slice
  injection e with e1 e2 e3
  subst e1
  obtain ⟨b, o, e, hlt, hcs⟩ := hI (by simp)
  injection e with e
  injection e with e1 e2
  subst e1 e2
  have hg := h.row.lt g (by rfl)
  obtain ⟨c0, c1⟩ := hcs 0 (by simp)
  have c0 : w.cell? ⟨g, 0, none⟩ = some (.string f.1) := c0
  have c1 : w.cell? ⟨g, 1, none⟩ = some (.string f.2) := c1
  have hfr : w.frozen? ⟨g, 1, none⟩ = false := by
    rcases h.row.2 with ⟨e, -⟩ | ⟨g2, cap, cur, e, -, hh, -⟩
    · cases e
    · injection e with e
      injection e with e
      injection e with e1
      subst e1
      simp [World.frozen?, hh]
  refine ⟨fun _ => ⟨g, 0, rfl, by simpa [World.setCell] using hlt, fun i hi => ?_⟩, hg.1, c0, c1, hfr⟩
  cases i with
  | zero =>
    refine ⟨?_, cell_set_self c1 rfl⟩
    exact (World.cell?_setCell_other _ _ _ _ (by simp)).trans c0
  | succ i =>
    obtain ⟨d0, d1⟩ := hcs (i + 1) (by simpa using hi)
    refine ⟨(World.cell?_setCell_other _ _ _ _ (fun e => ?_)).trans d0, (World.cell?_setCell_other _ _ _ _ (fun e => ?_)).trans d1⟩
    · injection e with _ e; omega
    · injection e with _ e; omega
theorem app_ne (y : ByteArray) : y ++ (⟨#[120]⟩ : ByteArray) ≠ y := fun h => by
  have := congrArg ByteArray.size h
  rw [ByteArray.size_append] at this
  have h1 : (⟨#[120]⟩ : ByteArray).size = 1 := rfl
  omega
theorem RowF.poke0 {wb w : World} {g c : Nat} {l : List Fd} (h : RowF wb w (.slice (some ⟨g, 0, none⟩) l.length c) l) (hp : 0 < l.length) (u : ByteArray) :
    ∃ (x y : ByteArray) (r : List Fd), l = (x, y) :: r ∧ InF (w.setCell ⟨g, 1, none⟩ (.string u)) (some ⟨g, 0, none⟩) ((x, u) :: r) ∧ w.cell? ⟨g, 0, none⟩ = some (.string x) ∧ w.cell? ⟨g, 1, none⟩ = some (.string y) ∧ w.frozen? ⟨g, 1, none⟩ = false := by
  cases l with
  | nil => simp at hp
  | cons f r =>
    obtain ⟨p1, -, p2, p3, p4⟩ := RowF.poke (f := f) (l := r) h u
    exact ⟨f.1, f.2, r, rfl, p1, p2, p3, p4⟩
theorem RowF.some_addr {wb w : World} {a : Option Addr} {n c : Nat} {l : List Fd} (h : RowF wb w (.slice a n c) l) (hp : 0 < l.length) : ∃ g, a = some ⟨g, 0, none⟩ ∧ wb.heap.size ≤ g ∧ g < w.heap.size := by
  rcases h.row.2 with ⟨-, e⟩ | ⟨g, cap, cur, e, -⟩
  · omega
  · injection e with e
    subst e
    exact ⟨g, rfl, h.row.lt g rfl⟩
set_option maxHeartbeats 16000000 in
set_option maxRecDepth 100000 in
theorem itemChecks (w : World) (hc : Ctx w) (i j : It) (a b : Option Addr) (c d : Nat) (hI : InF w a i.l) (hcap : i.l.length ≤ c) (hcap2 : c ≤ 9223372036854775807) (hJ : InF w b j.l) (hdap : j.l.length ≤ d) (hdap2 : d ≤ 9223372036854775807) (key : ByteArray) (hk9 : key.size ≤ 9223372036854775807) :
    Calls Tryd.prog 3 #[.agg #[.int .i64 i.k, .string i.t, .slice a i.l.length c], .agg #[.int .i64 j.k, .string j.t, .slice b j.l.length d], .string key] w fun e w' => e = .returned (.bool true) ∧ Below w.heap.size w w' := by
  have H := Lib.hid (fun W (h : Below w.heap.size w W) => hc.below h)
  have HI := Lib.hid (fun W (h : Below w.heap.size w W) => hI.below (Nat.le_refl _) h)
  have HJ := Lib.hid (fun W (h : Below w.heap.size w W) => hJ.below (Nat.le_refl _) h)
  have HB0 := Lib.hid (fun T O => (Bx.new (W := w) (i := i) hI hcap hcap2 T).alloc O)
  have HB1 := Lib.hid (fun O T => Bx.new (W := w.alloc O) (i := j) (hJ.below (Nat.le_refl _) (bbox O)) hdap hdap2 T)
  have hz1 : ∀ O, (w.alloc O).heap.size = w.heap.size + 1 := fun O => by simp
  simp only [hz1] at HB1
  have HGi := Lib.hid (fun W (h : Below w.heap.size w W) => great_calls W i.k i.t a c _ i.l rfl (hI.below (Nat.le_refl _) h))
  have HGj := Lib.hid (fun W (h : Below w.heap.size w W) => great_calls W j.k j.t b d _ j.l rfl (hJ.below (Nat.le_refl _) h))
  have HSm := Lib.hid refSame_true
  clear hc hI hJ hz1
  go_enter Tryd.func3, Tryd.ntmps3
  go_wp2_with fail
  refine (alive_calls _ (H.out _ (bstep (bbox _) (bbox _)))).mono ?_
  rintro e w1 ⟨rfl, hb⟩
  have X3 := Lib.hid ((HB0.out _ _).below hb)
  have X4 := Lib.hid ((HB1.out _ _).below hb)
  have B := Lib.hid (bstep (bstep (bbox _) (bbox _)) hb)
  clear hb HB0 HB1
  have c0 := X3.out.cells.c0
  have c1 := X3.out.cells.c1
  have c2 := X3.out.cells.c2
  go_wp2_with fail
  refine (HGi.out _ B.out).mono ?_
  rintro e w2 ⟨he, hb⟩
  have X3 := Lib.hid (X3.out.below hb)
  have X4 := Lib.hid (X4.out.below hb)
  have B := Lib.hid (bstep B.out hb)
  clear hb c0 c1 c2
  rcases he with rfl | ⟨rfl, hok⟩
  · go_wp2_with fail
    go_ret
    exact ⟨rfl, B.out⟩
  have HOk := Lib.hid hok
  clear hok
  have d0 := X4.out.cells.c0
  have d1 := X4.out.cells.c1
  have d2 := X4.out.cells.c2
  go_wp2_with fail
  refine (HGj.out _ B.out).mono ?_
  rintro e w3 ⟨he, hb⟩
  have X3 := Lib.hid (X3.out.below hb)
  have X4 := Lib.hid (X4.out.below hb)
  have B := Lib.hid (bstep B.out hb)
  clear hb d0 d1 d2
  rcases he with rfl | ⟨rfl, hok⟩
  · go_wp2_with fail
    go_ret
    exact ⟨rfl, B.out⟩
  have HOkj := Lib.hid hok
  clear hok
  by_cases hk : 600 < key.size
  · have hkc : (600 : Int) < (key.size : Int) := by omega
    go_wp2_with fail
    go_ret
    exact ⟨rfl, B.out⟩
  have hkc : ¬ (600 : Int) < (key.size : Int) := by omega
  have c0 := X3.out.cells.c0
  have c1 := X3.out.cells.c1
  have c2 := X3.out.cells.c2
  have HCp := Lib.hid (fun W (h : Below w.heap.size w W) => copy_calls W i.k i.t a c _ i.l rfl (HI.out W h) (by have h300 : i.l.length ≤ 300 := HOk.out.1; omega))
  obtain ⟨br, hbr⟩ := some_b (RightP i)
  obtain ⟨bs, hbs⟩ := some_b (i.k = j.k ∧ i.t = j.t ∧ i.l = j.l)
  have HR1 := Lib.hid (fun W (h : Below w.heap.size w W) => right_calls W i.k i.t a c _ i.l rfl (HI.out W h) br hbr)
  have HR2 := Lib.hid (fun W (h : Below w.heap.size w W) => refRight_calls W i.k i.t a c _ i.l rfl (HI.out W h) br hbr)
  have HS1 := Lib.hid (fun W (h : Below w.heap.size w W) => same_calls W i.k j.k i.t j.t a b c d _ _ i.l j.l rfl rfl (by omega) (by omega) (HI.out W h) (HJ.out W h) bs hbs)
  have HS2 := Lib.hid (fun W (h : Below w.heap.size w W) => refSame_calls W i.k j.k i.t j.t a b c d _ _ i.l j.l rfl rfl (by omega) (by omega) (HI.out W h) (HJ.out W h) bs hbs)
  have HBr := Lib.hid hbr
  clear hbr hbs HGi HGj
  go_wp2_with fail
  have hN0 : w.heap.size + 1 < w3.heap.size := X4.out.cells.lt
  refine (HCp.out _ B.out).mono ?_
  rintro e w4 ⟨v, rfl, hR⟩
  have X3 := Lib.hid (X3.out.below hR.bel)
  have X4 := Lib.hid (X4.out.below hR.bel)
  have HR := Lib.hid hR
  have BW := Lib.hid B.out
  have B := Lib.hid (bstep B.out hR.bel)
  obtain ⟨a7, c7, rfl, h71, h72, h73⟩ := hR.slice
  have HG7 : Hid (0 < i.l.length → ∃ g, a7 = some ⟨g, 0, none⟩ ∧ w3.heap.size ≤ g ∧ g < w4.heap.size) := Lib.hid (fun hp => hR.some_addr hp)
  have X7 := Lib.hid (fun T => Bx.new (W := w4) (i := i) h73 h71 h72 T)
  have X3 := Lib.hid (fun O => X3.out.alloc O)
  have X4 := Lib.hid (fun O => X4.out.alloc O)
  have B := Lib.hid (fun O => bstep B.out (bbox (w := w4) O))
  have HRa := Lib.hid (fun O => HR.out.below (bbox O))
  clear hR c0 c1 c2 h71 h72 h73 HCp HR
  go_wp2_with fail
  obtain ⟨F, F1, F2, F3⟩ := ovr (w4.alloc (.cells #[.int .i64 i.k, .string i.t, .slice a7 i.l.length c7] 24))
  have HF1 := Lib.hid F1
  have HF3 := Lib.hid F3
  have HX3 := Lib.hid (fun x => (X3.out _).below (F1 x))
  have HX4 := Lib.hid (fun x => (X4.out _).below (F1 x))
  have HX7 := Lib.hid (fun x => (X7.out _).below (F1 x))
  have HBF := Lib.hid (fun x => bstep (B.out _) (F1 x))
  have HRF := Lib.hid (fun x => (HRa.out _).below (F1 x))
  clear X3 X4 X7 B HRa F1 F3
  generalize w4.heap.size = N7 at *
  have c0 := fun x => (HX3.out x).cells.c0
  have c1 := fun x => (HX3.out x).cells.c1
  have c2 := fun x => (HX3.out x).cells.c2
  have d0 := fun x => (HX4.out x).cells.c0
  have d1 := fun x => (HX4.out x).cells.c1
  have d2 := fun x => (HX4.out x).cells.c2
  have e0 := fun x => (HX7.out x).cells.c0
  have e1 := fun x => (HX7.out x).cells.c1
  have e2 := fun x => (HX7.out x).cells.c2
  have HQ1 := Lib.hid (fun x => HR1.out _ (HBF.out x))
  have HQ2 := Lib.hid (fun x => HR2.out _ (HBF.out x))
  have HQ3 := Lib.hid (fun x => HS1.out _ (HBF.out x))
  have HQ4 := Lib.hid (fun x => HS2.out _ (HBF.out x))
  have HQ5 := Lib.hid (fun x => HSm.out (F x) i a a7 c c7 (by omega) (HX3.out x).inF (HX7.out x).inF)
  refine wp_region_cls F (by kernel_rfl) (by kernel_rfl) F2 ?_
  repeat (go_big_quiet_step (first | (go_at_call 11; with_reducible exact q_ovr HF3.out (HQ1.out _)) | (go_at_call 12; with_reducible exact q_ovr HF3.out (HQ2.out _)) | (go_at_call 13; with_reducible exact q_ovr HF3.out (HQ3.out _)) | (go_at_call 14; first | with_reducible exact q_ovr HF3.out (HQ4.out _) | with_reducible exact q_ovr HF3.out (HQ5.out _))))
  refine wpQuiet_nil ?_
  intro _ hw'
  obtain ⟨x1, hw2⟩ := hw'
  subst hw2
  have k0 := (HX3.out x1).cells
  have HK0 := Lib.hid k0
  have k7 := (HX7.out x1).cells.c2
  clear c0 c1 c2 d0 d1 d2 e0 e1 e2 HQ1 HQ2 HQ3 HQ4 HQ5 k0
  by_cases hl0 : 0 < i.l.length
  · have hlc : (0 : Int) < (i.l.length : Int) := by omega
    obtain ⟨g, rfl, hg1, hg2⟩ := HG7.out hl0
    have hRF := HRF.out x1
    obtain ⟨x, y, r, hl, -, q0, q1, q2⟩ := hRF.poke0 hl0 ⟨#[]⟩
    have HPk := Lib.hid (fun u => (hRF.poke0 hl0 u))
    have HLe := Lib.hid hl
    have hys : y.size ≤ 5000 := by
      have h0 : i.l[0].2.size ≤ 5000 := (HOk.out.2.2 0 hl0).2
      simp only [hl] at h0
      exact h0
    have k3a := (HX3.out x1).cells.setOther (b2 := g) (i := 1) (by omega) (.string (y ++ ⟨#[120]⟩))
    have k7a := (HX7.out x1).cells.setOther (b2 := g) (i := 1) (by omega) (.string (y ++ ⟨#[120]⟩))
    have HK3 := Lib.hid k3a
    have HK7 := Lib.hid k7a
    have HBn := Lib.hid ((HBF.out x1).setCell (p := ⟨g, 1, none⟩) (by show _ ≤ g; omega) (.string (y ++ ⟨#[120]⟩)))
    have hS3 : Calls Tryd.prog 13 #[.agg #[.int .i64 i.k, .string i.t, .slice a i.l.length c], .agg #[.int .i64 i.k, .string i.t, .slice (some ⟨g, 0, none⟩) i.l.length c7]] ((F x1).setCell ⟨g, 1, none⟩ (.string (y ++ ⟨#[120]⟩)))
        fun e w' => e = .returned (.bool false) ∧ Below ((F x1).setCell ⟨g, 1, none⟩ (.string (y ++ ⟨#[120]⟩))).heap.size ((F x1).setCell ⟨g, 1, none⟩ (.string (y ++ ⟨#[120]⟩))) w' := by
      obtain ⟨x', y', r', hl', hI', -⟩ := hRF.poke0 hl0 (y ++ ⟨#[120]⟩)
      have hI2 : InF ((F x1).setCell ⟨g, 1, none⟩ (.string (y ++ ⟨#[120]⟩))) (some ⟨g, 0, none⟩) ((x, y ++ ⟨#[120]⟩) :: r) := by
        have e : (x, y) :: r = (x', y') :: r' := hl.symm.trans hl'
        have e1 : x = x' := by injection e with e _; injection e
        have e2 : r = r' := by injection e
        rw [e1, e2]
        exact hI'
      refine same_calls _ i.k i.k i.t i.t a (some ⟨g, 0, none⟩) c c7 i.l.length i.l.length i.l ((x, y ++ ⟨#[120]⟩) :: r) rfl (by rw [hl]; rfl) (by omega) (by omega) (HI.out _ HBn.out) hI2 false ⟨fun h => (by cases h), fun h => ?_⟩
      have h2 := hl.symm.trans h.2.2
      have h3 : (x, y) = (x, y ++ ⟨#[120]⟩) := by injection h2
      have h4 : y = y ++ ⟨#[120]⟩ := by injection h3
      exact absurd h4.symm (app_ne y)
    have HS3 := Lib.hid hS3
    clear hS3
    clear hl hRF k3a k7a HX3 HX4 HX7 HRF HPk
    have z0 := HK3.out.c0
    have z1 := HK3.out.c1
    have z2 := HK3.out.c2
    have z3 := HK7.out.c0
    have z4 := HK7.out.c1
    have z5 := HK7.out.c2
    go_wp2_with fail
    refine HS3.out.mono ?_
    rintro e w6 ⟨rfl, hb⟩
    have B6 := Lib.hid (bstep HBn.out hb)
    have K6 := Lib.hid (HK3.out.below hb)
    clear hb z0 z1 z2 z3 z4 z5 k7 q0 q1 q2
    cases br with
    | false =>
      obtain ⟨F', G1, G2, G3⟩ := ovr w6
      have GF3 := Lib.hid G3
      have GB := Lib.hid (fun x => bstep B6.out (G1 x))
      have GC := Lib.hid (fun x => (K6.out).below (G1 x))
      have p0 := fun x => (GC.out x).c0
      have p1 := fun x => (GC.out x).c1
      have p2 := fun x => (GC.out x).c2
      have GQ2 := Lib.hid (fun x => HR2.out _ (GB.out x))
      clear G1 G3
      go_wp2_with fail
      refine wp_region_cls F' (by kernel_rfl) (by kernel_rfl) G2 ?_
      repeat (go_big_quiet_step (first | (go_at_call 12; with_reducible exact q_ovr GF3.out (GQ2.out _))))
      refine wpQuiet_nil ?_
      intro _ hw'
      obtain ⟨x2, hw2⟩ := hw'
      subst hw2
      go_wp2_with fail
      go_ret
      exact ⟨rfl, GB.out x2⟩
    | true =>
      obtain ⟨nc, hn1, hn2⟩ := cost_both i (HBr.out.1 rfl) key (by omega)
      obtain ⟨F', G1, G2, G3⟩ := ovr w6
      have GF3 := Lib.hid G3
      have GB := Lib.hid (fun x => bstep B6.out (G1 x))
      have GC := Lib.hid (fun x => (K6.out).below (G1 x))
      have p0 := fun x => (GC.out x).c0
      have p1 := fun x => (GC.out x).c1
      have p2 := fun x => (GC.out x).c2
      have GQ2 := Lib.hid (fun x => HR2.out _ (GB.out x))
      have GQ3 := Lib.hid (fun x => hn1 (F' x) a c (H.out _ (GB.out x)) (HI.out _ (GB.out x)))
      have GQ4 := Lib.hid (fun x => hn2 (F' x) a c (HI.out _ (GB.out x)))
      clear G1 G3 hn1 hn2
      go_wp2_with fail
      refine wp_region_cls F' (by kernel_rfl) (by kernel_rfl) G2 ?_
      repeat (go_big_quiet_step (first | (go_at_call 12; with_reducible exact q_ovr GF3.out (GQ2.out _)) | (go_at_call 15; with_reducible exact q_ovr GF3.out (GQ3.out _)) | (go_at_call 16; with_reducible exact q_ovr GF3.out (GQ4.out _))))
      refine wpQuiet_nil ?_
      intro _ hw'
      obtain ⟨x2, hw2⟩ := hw'
      subst hw2
      go_wp2_with fail
      go_ret
      exact ⟨rfl, GB.out x2⟩
  · have hlc : ¬ (0 : Int) < (i.l.length : Int) := by omega
    cases br with
    | false =>
      obtain ⟨F', G1, G2, G3⟩ := ovr (F x1)
      have GF3 := Lib.hid G3
      have GB := Lib.hid (fun x => bstep (HBF.out x1) (G1 x))
      have GC := Lib.hid (fun x => (HK0.out).below (G1 x))
      have p0 := fun x => (GC.out x).c0
      have p1 := fun x => (GC.out x).c1
      have p2 := fun x => (GC.out x).c2
      have GQ2 := Lib.hid (fun x => HR2.out _ (GB.out x))
      clear G1 G3
      go_wp2_with fail
      refine wp_region_cls F' (by kernel_rfl) (by kernel_rfl) G2 ?_
      repeat (go_big_quiet_step (first | (go_at_call 12; with_reducible exact q_ovr GF3.out (GQ2.out _))))
      refine wpQuiet_nil ?_
      intro _ hw'
      obtain ⟨x2, hw2⟩ := hw'
      subst hw2
      go_wp2_with fail
      go_ret
      exact ⟨rfl, GB.out x2⟩
    | true =>
      obtain ⟨nc, hn1, hn2⟩ := cost_both i (HBr.out.1 rfl) key (by omega)
      obtain ⟨F', G1, G2, G3⟩ := ovr (F x1)
      have GF3 := Lib.hid G3
      have GB := Lib.hid (fun x => bstep (HBF.out x1) (G1 x))
      have GC := Lib.hid (fun x => (HK0.out).below (G1 x))
      have p0 := fun x => (GC.out x).c0
      have p1 := fun x => (GC.out x).c1
      have p2 := fun x => (GC.out x).c2
      have GQ2 := Lib.hid (fun x => HR2.out _ (GB.out x))
      have GQ3 := Lib.hid (fun x => hn1 (F' x) a c (H.out _ (GB.out x)) (HI.out _ (GB.out x)))
      have GQ4 := Lib.hid (fun x => hn2 (F' x) a c (HI.out _ (GB.out x)))
      clear G1 G3 hn1 hn2
      go_wp2_with fail
      refine wp_region_cls F' (by kernel_rfl) (by kernel_rfl) G2 ?_
      repeat (go_big_quiet_step (first | (go_at_call 12; with_reducible exact q_ovr GF3.out (GQ2.out _)) | (go_at_call 15; with_reducible exact q_ovr GF3.out (GQ3.out _)) | (go_at_call 16; with_reducible exact q_ovr GF3.out (GQ4.out _))))
      refine wpQuiet_nil ?_
      intro _ hw'
      obtain ⟨x2, hw2⟩ := hw'
      subst hw2
      go_wp2_with fail
      go_ret
      exact ⟨rfl, GB.out x2⟩
end Go.Proofs.YtjjphpklifbipaaDoor.Ia
