/- The walk of the law ItemCosts: true, at any item, any key and any field. -/
import Derived.Test.YtjjphpklifbipaaDoorId5
namespace Go.Proofs.YtjjphpklifbipaaDoor.Ia
open Go.ChangeShapes Go.WideShapes Go.ChangeAt Go.RowKit
theorem ex_nat (n : Nat) : ∃ q, n = q := ⟨n, rfl⟩
set_option maxHeartbeats 16000000 in
set_option maxRecDepth 100000 in
theorem itemCosts (w : World) (hc : Ctx w) (i : It) (a : Option Addr) (c : Nat) (hI : InF w a i.l) (hcap : i.l.length ≤ c) (hcap2 : c ≤ 9223372036854775807) (key : ByteArray) (hk9 : key.size ≤ 9223372036854775807) (f : Fd) :
    Calls Tryd.prog 7 #[.agg #[.int .i64 i.k, .string i.t, .slice a i.l.length c], .string key, .agg #[.string f.1, .string f.2]] w fun e w' => e = .returned (.bool true) ∧ Below w.heap.size w w' := by
  have H := Lib.hid (fun W (h : Below w.heap.size w W) => hc.below h)
  have HI := Lib.hid (fun W (h : Below w.heap.size w W) => hI.below (Nat.le_refl _) h)
  have HB0 := Lib.hid (fun T O => (Bx.new (W := w) (i := i) hI hcap hcap2 T).alloc O)
  have HB1 := Lib.hid (fun O T => Cell2.new (w.alloc O) (w.heap.size + 1) (by simp) f T)
  have HGi := Lib.hid (fun W (h : Below w.heap.size w W) => great_calls W i.k i.t a c _ i.l rfl (hI.below (Nat.le_refl _) h))
  obtain ⟨br, hbr⟩ := some_b (RightP i)
  have HR2 := Lib.hid (fun W (h : Below w.heap.size w W) => refRight_calls W i.k i.t a c _ i.l rfl (HI.out W h) br hbr)
  have HBr := Lib.hid hbr
  clear hc hI hbr
  go_enter Tryd.func7, Tryd.ntmps7
  go_wp2_with fail
  refine (alive_calls _ (H.out _ (bstep (bbox _) (bbox _)))).mono ?_
  rintro e w1 ⟨rfl, hb⟩
  have X3 := Lib.hid ((HB0.out _ _).below hb)
  have X5 := Lib.hid ((HB1.out _ _).below hb)
  have B := Lib.hid (bstep (bstep (bbox _) (bbox _)) hb)
  clear hb HB0 HB1
  have c0 := X3.out.cells.c0
  have c1 := X3.out.cells.c1
  have c2 := X3.out.cells.c2
  go_wp2_with fail
  refine (HGi.out _ B.out).mono ?_
  rintro e w2 ⟨he, hb⟩
  have X3 := Lib.hid (X3.out.below hb)
  have X5 := Lib.hid (X5.out.below hb)
  have B := Lib.hid (bstep B.out hb)
  clear hb c0 c1 c2
  rcases he with rfl | ⟨rfl, hok⟩
  · go_wp2_with fail
    go_ret
    exact ⟨rfl, B.out⟩
  have HOk := Lib.hid hok
  clear hok
  have c0 := X3.out.cells.c0
  have c1 := X3.out.cells.c1
  have c2 := X3.out.cells.c2
  go_wp2_with fail
  refine (HR2.out _ B.out).mono ?_
  rintro e w3 ⟨rfl, hb⟩
  have X3 := Lib.hid (X3.out.below hb)
  have X5 := Lib.hid (X5.out.below hb)
  have B := Lib.hid (bstep B.out hb)
  clear hb c0 c1 c2 HR2 HGi
  cases br with
  | false =>
    go_wp2_with fail
    go_ret
    exact ⟨rfl, B.out⟩
  | true =>
  have HRi := Lib.hid (HBr.out.1 rfl)
  by_cases hk : 500 < key.size
  · have hkc : (500 : Int) < (key.size : Int) := by omega
    go_wp2_with fail
    go_ret
    exact ⟨rfl, B.out⟩
  have hkc : ¬ (500 : Int) < (key.size : Int) := by omega
  have d0 := X5.out.c0
  have d1 := X5.out.c1
  by_cases hn : 500 < f.1.size
  · have hnc : (500 : Int) < (f.1.size : Int) := by omega
    go_wp2_with fail
    go_ret
    exact ⟨rfl, B.out⟩
  have hnc : ¬ (500 : Int) < (f.1.size : Int) := by omega
  by_cases hx : 4000 < f.2.size
  · have hxc : (4000 : Int) < (f.2.size : Int) := by omega
    go_wp2_with fail
    go_ret
    exact ⟨rfl, B.out⟩
  have hxc : ¬ (4000 : Int) < (f.2.size : Int) := by omega
  go_wp2_with fail
  obtain ⟨m, hm, hm1, hm2, hcost⟩ := cost_any i HRi.out
  have HM1 := Lib.hid hm1
  have HM2 := Lib.hid hm2
  have hsz1 : (key ++ (⟨#[120]⟩ : ByteArray)).size = key.size + 1 := by rw [ByteArray.size_append]; rfl
  obtain ⟨F, F1, F2, F3⟩ := ovr w3
  have HF3 := Lib.hid F3
  have HBF := Lib.hid (fun x => bstep B.out (F1 x))
  have HX3 := Lib.hid (fun x => X3.out.below (F1 x))
  have HX5 := Lib.hid (fun x => X5.out.below (F1 x))
  have HQ1 := Lib.hid (fun x => (hcost (key ++ ⟨#[120]⟩) (by omega) (F x) a c (H.out _ (HBF.out x)) (HI.out _ (HBF.out x))).mono (fun e w' h => (⟨h.1.trans (by rw [hsz1]; congr 2; push_cast; omega), h.2⟩ : e = .returned (.int .i64 (((48 + key.size + m : Nat) : Int) + 1)) ∧ _)))
  have HQ2 := Lib.hid (fun x => hcost key (by omega) (F x) a c (H.out _ (HBF.out x)) (HI.out _ (HBF.out x)))
  have HCo := Lib.hid hcost
  have hqb : 48 + key.size + m ≤ 2001000 := by omega
  clear F1 F3 hcost hm1 hm2 hsz1 d0 d1
  obtain ⟨q, hq⟩ := ex_nat (48 + key.size + m)
  rw [hq] at hqb
  simp only [hq] at HQ1 HQ2
  have HQq := Lib.hid hq
  clear hq
  have hwr : IntKind.i64.wrap ((q : Int) + 1) = (q : Int) + 1 := by rw [IntKind.wrap_i64]; omega
  have c0 := fun x => (HX3.out x).cells.c0
  have c1 := fun x => (HX3.out x).cells.c1
  have c2 := fun x => (HX3.out x).cells.c2
  have hkl : (key.size : Int) + 1 ≤ 9223372036854775807 := by omega
  refine wp_region_cls F (by kernel_rfl) (by kernel_rfl) F2 ?_
  repeat (go_big_quiet_step (first | (go_at_call 15; first | with_reducible exact q_ovr HF3.out (HQ1.out _) | with_reducible exact q_ovr HF3.out (HQ2.out _))))
  refine wpQuiet_nil ?_
  intro _ hw'
  obtain ⟨x1, hw2⟩ := hw'
  subst hw2
  have k0 := (HX3.out x1).cells.c0
  clear c0 c1 c2
  have hkk : i.k = 1 ∨ i.k = 2 := by rcases HRi.out with h | h; exact .inl h.1; exact .inr h.1
  rcases hkk with hk1 | hk2
  · have hk1b : (i.k == 1) = true := by rw [hk1]; rfl
    have HM := Lib.hid (HM1.out hk1)
    have ht : i.t.size ≤ 4096 := HRi.out.elim (fun h => h.2.1) (fun h => by have h1 := h.1; rw [hk1] at h1; cases h1)
    clear hk1 HQ1 HQ2
    obtain ⟨F', G1, G2, G3⟩ := ovr (F x1)
    have GF3 := Lib.hid G3
    have GB := Lib.hid (fun x => bstep (HBF.out x1) (G1 x))
    have GC := Lib.hid (fun x => (HX3.out x1).below (G1 x))
    have e0 := fun x => (GC.out x).cells.c0
    have e1 := fun x => (GC.out x).cells.c1
    have e2 := fun x => (GC.out x).cells.c2
    have GQ1 := Lib.hid (fun x => cost_text (F' x) (H.out _ (GB.out x)) key (i.t ++ ⟨#[120, 121]⟩) (.slice none 0 0) (by omega) (by rw [ByteArray.size_append]; have : (⟨#[120, 121]⟩ : ByteArray).size = 2 := rfl; omega))
    have GQ2 := Lib.hid (fun x => cost_text (F' x) (H.out _ (GB.out x)) key (i.t ++ ⟨#[120]⟩) (.slice none 0 0) (by omega) (by rw [ByteArray.size_append]; have : (⟨#[120]⟩ : ByteArray).size = 1 := rfl; omega))
    simp only [textC_xy, textC_x] at GQ1 GQ2
    obtain ⟨p, hp⟩ := ex_nat (48 + key.size + (i.t.size + 1))
    have hp2 : 48 + key.size + (i.t.size + 2) = p + 1 := by omega
    have hpb : p ≤ 1000000 := by omega
    simp only [hp, hp2] at GQ1 GQ2
    have GQ1 : Hid (∀ x, Calls Tryd.prog 15 #[.string key, .agg #[.int .i64 1, .string (i.t ++ ⟨#[120, 121]⟩), .slice none 0 0]] (F' x) fun e w' => e = .returned (.int .i64 ((p : Int) + 1)) ∧ Below (F' x).heap.size (F' x) w') := Lib.hid (fun x => (GQ1.out x).mono (fun e w' h => ⟨h.1.trans (by congr 2), h.2⟩))
    have hwp : IntKind.i64.wrap ((p : Int) + 1) = (p : Int) + 1 := by rw [IntKind.wrap_i64]; omega
    clear G1 G3 hp hp2
    by_cases ht9 : 4090 < i.t.size
    · have htc : (4090 : Int) < (i.t.size : Int) := by omega
      have htd : decide ((4090 : Int) < (i.t.size : Int)) = true := decide_eq_true htc
      go_wp2_with fail
      refine wp_region_cls F' (by kernel_rfl) (by kernel_rfl) G2 ?_
      repeat (go_big_quiet_step (fail))
      refine wpQuiet_nil ?_
      intro _ hw'
      obtain ⟨x2, hw2⟩ := hw'
      subst hw2
      go_wp2_with fail
      go_ret
      exact ⟨rfl, GB.out x2⟩
    · have htc : ¬ (4090 : Int) < (i.t.size : Int) := by omega
      have htd : decide ((4090 : Int) < (i.t.size : Int)) = false := decide_eq_false htc
      have htl : (i.t.size : Int) + 2 ≤ 9223372036854775807 := by omega
      have htl1 : (i.t.size : Int) + 1 ≤ 9223372036854775807 := by omega
      go_wp2_with fail
      refine wp_region_cls F' (by kernel_rfl) (by kernel_rfl) G2 ?_
      repeat (go_big_quiet_step (first | (go_at_call 15; first | with_reducible exact q_ovr GF3.out (GQ1.out _) | with_reducible exact q_ovr GF3.out (GQ2.out _))))
      refine wpQuiet_nil ?_
      intro _ hw'
      obtain ⟨x2, hw2⟩ := hw'
      subst hw2
      go_wp2_with fail
      go_ret
      exact ⟨rfl, GB.out x2⟩
  · have hk2b : (i.k == 1) = false := by rw [hk2]; rfl
    have hAR : AllR i.l := HRi.out.elim (fun h => by have h1 := h.1; rw [hk2] at h1; cases h1) (fun h => h.2.2)
    have hP := put_new i.t i.l hAR f.1 f.2
    rw [← hk2] at hP
    obtain ⟨b, ee, hg, r, d, hp, hor⟩ := hP
    have HM := Lib.hid (HM2.out hk2)
    have HK2 := Lib.hid hk2
    have HG := Lib.hid (fun W (h : Below w.heap.size w W) => hg W a c (HI.out W h) hcap hcap2)
    have HP := Lib.hid (fun W (h : Below w.heap.size w W) => hp W a c (HI.out W h) hcap hcap2)
    have HOr := Lib.hid hor
    have Y3 := Lib.hid (HX3.out x1)
    have Y5 := Lib.hid (HX5.out x1)
    have YB := Lib.hid (HBF.out x1)
    have k1 := Y3.out.cells.c1
    have k2 := Y3.out.cells.c2
    have d0 := Y5.out.c0
    have d1 := Y5.out.c1
    clear hk2 hg hp hor HQ1 HQ2 HX3 HX5 HBF HM1 HM2 hAR
    go_wp2_with fail
    refine (HG.out _ YB.out).mono ?_
    rintro e4 w4 ⟨⟨s4, rfl⟩, hb⟩
    have Y3 := Lib.hid (Y3.out.below hb)
    have Y5 := Lib.hid (Y5.out.below hb)
    have YB := Lib.hid (bstep YB.out hb)
    clear hb k0 k1 k2 d0 d1
    have k0 := Y3.out.cells.c0
    have k1 := Y3.out.cells.c1
    have k2 := Y3.out.cells.c2
    have d0 := Y5.out.c0
    have d1 := Y5.out.c1
    go_wp2_with fail
    refine (HP.out _ YB.out).mono ?_
    rintro e5 w5 ⟨v5, rfl, hv, hb⟩
    have Y3 := Lib.hid (Y3.out.below hb)
    have Y5 := Lib.hid (Y5.out.below hb)
    have YB := Lib.hid (bstep YB.out hb)
    clear hb k0 k1 k2 d0 d1
    obtain ⟨a10, c10, rfl, h1, h2, h3⟩ := hv
    have Y10 := Lib.hid (fun T => Bx.new (W := w5) (i := r) h3 h1 h2 T)
    have Y3 := Lib.hid (fun O => Y3.out.alloc O)
    have Y5 := Lib.hid (fun O => Y5.out.below (bbox (w := w5) O))
    have YB := Lib.hid (fun O => bstep YB.out (bbox (w := w5) O))
    clear h1 h2 h3
    cases b with
    | true =>
      go_wp2_with fail
      go_ret
      exact ⟨rfl, YB.out _⟩
    | false =>
    rcases HOr.out with h | h | ⟨-, rfl, rfl, hrk, -, -, -, hrm, hrs⟩
    · cases h
    · go_wp2_with fail
      go_ret
      exact ⟨rfl, YB.out _⟩
    have hsr : sumC r.l ≤ 3000000 := by have := HM.out; omega
    have Hrk := Lib.hid hrk
    have Hrs := Lib.hid hrs
    clear hrk hrs
    go_wp2_with fail
    obtain ⟨F', G1, G2, G3⟩ := ovr (w5.alloc (.cells #[.int .i64 r.k, .string r.t, .slice a10 r.l.length c10] 24))
    have GF3 := Lib.hid G3
    have GB := Lib.hid (fun x => bstep (YB.out _) (G1 x))
    have G3' := Lib.hid (fun x => (Y3.out _).below (G1 x))
    have G5' := Lib.hid (fun x => (Y5.out _).below (G1 x))
    have G10 := Lib.hid (fun x => (Y10.out _).below (G1 x))
    clear Y3 Y5 Y10 YB
    generalize w5.heap.size = N10 at *
    have k0 := fun x => (G3'.out x).cells.c0
    have k1 := fun x => (G3'.out x).cells.c1
    have k2 := fun x => (G3'.out x).cells.c2
    have d0 := fun x => (G5'.out x).c0
    have d1 := fun x => (G5'.out x).c1
    have e0 := fun x => (G10.out x).cells.c0
    have e1 := fun x => (G10.out x).cells.c1
    have e2 := fun x => (G10.out x).cells.c2
    have GQ1 := Lib.hid (fun x => cost_hash (F' x) key r.t a10 c10 r.l.length r.l rfl (by omega) (by omega) (by omega) (G10.out x).inF)
    have GQ2 := Lib.hid (fun x => HCo.out key (by omega) (F' x) a c (H.out _ (GB.out x)) (HI.out _ (GB.out x)))
    simp only [HQq.out] at GQ2
    have GQ1 : Hid (∀ x, Calls Tryd.prog 15 #[.string key, .agg #[.int .i64 r.k, .string r.t, .slice a10 r.l.length c10]] (F' x) fun e w' => e = .returned (.int .i64 ((q : Int) + (16 + (f.1.size : Int) + (f.2.size : Int)))) ∧ Below (F' x).heap.size (F' x) w') := Lib.hid (fun x => by
      have h := GQ1.out x
      have e9 : ((48 + key.size + sumC r.l : Nat) : Int) = (q : Int) + (16 + (f.1.size : Int) + (f.2.size : Int)) := by
        have h1 := HQq.out
        have h2 := HM.out
        have h3 := Hrs.out
        omega
      rw [e9] at h
      rw [show r.k = 2 from Hrk.out.trans HK2.out]
      exact h)
    have hw1 : IntKind.i64.wrap (16 + (f.1.size : Int)) = 16 + (f.1.size : Int) := by rw [IntKind.wrap_i64]; omega
    have hw2 : IntKind.i64.wrap (16 + (f.1.size : Int) + (f.2.size : Int)) = 16 + (f.1.size : Int) + (f.2.size : Int) := by rw [IntKind.wrap_i64]; omega
    have hw3 : IntKind.i64.wrap ((q : Int) + (16 + (f.1.size : Int) + (f.2.size : Int))) = (q : Int) + (16 + (f.1.size : Int) + (f.2.size : Int)) := by rw [IntKind.wrap_i64]; omega
    clear G1 G3 hrm hsr
    refine wp_region_cls F' (by kernel_rfl) (by kernel_rfl) G2 ?_
    repeat (go_big_quiet_step (first | (go_at_call 15; first | with_reducible exact q_ovr GF3.out (GQ1.out _) | with_reducible exact q_ovr GF3.out (GQ2.out _))))
    refine wpQuiet_nil ?_
    intro _ hw'
    obtain ⟨x2, hw9⟩ := hw'
    subst hw9
    go_wp2_with fail
    go_ret
    exact ⟨rfl, GB.out x2⟩
end Go.Proofs.YtjjphpklifbipaaDoor.Ia
