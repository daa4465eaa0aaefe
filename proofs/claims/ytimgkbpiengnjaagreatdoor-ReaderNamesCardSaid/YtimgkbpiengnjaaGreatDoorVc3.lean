/- Package value's isRight and Check. Conditions: textFits answers for each text in the value; numbers within bounds. -/
import Derived.Test.YtimgkbpiengnjaaGreatDoorVc2
namespace Go.Proofs.YtimgkbpiengnjaaGreatDoor
open Go.ChangeShapes Go.WideShapes Go.ChangeAt Go.RowKit

theorem allTo_false {g : Nat → Bool} {n i : Nat} (h : i < n) (hf : g i = false) : allTo g n = false := by
  induction n with
  | zero => omega
  | succ n ih =>
    rw [allTo_succ]
    by_cases e : i = n
    · subst e; rw [hf]; simp
    · rw [ih (by omega)]; rfl
theorem good_eq (k : Int) (t : ByteArray) (z : Int) (r : Nat) (f : Bool) (a : Option Addr) (c n : Nat) (K : Nat → Val) (d : Nat) :
    good (.mk k t z r f a c n K) d = (headB k t z r f n && !(lists k && d == 0) && allTo (fun i => (K i).kind != 14 && good (K i) (d - 1)) n) := rfl
theorem count_eq (k : Int) (t : ByteArray) (z : Int) (r : Nat) (f : Bool) (a : Option Addr) (c n : Nat) (K : Nat → Val) : (Val.mk k t z r f a c n K).count = 1 + sumTo (fun i => (K i).count) n := rfl
theorem lists_of_n {k : Int} {t : ByteArray} {z : Int} {r : Nat} {f : Bool} {n : Nat} (h : headB k t z r f n = true) (hn : 0 < n) : lists k = true := by
  unfold headB listB at h
  unfold lists
  simp only [Bool.and_eq_true] at h
  have h := h.2
  by_cases h1 : k = 5
  · subst h1; rfl
  by_cases h2 : k = 13
  · subst h2; rfl
  by_cases h3 : k = 12
  · subst h3; rfl
  by_cases h4 : k = 14
  · subst h4; rfl
  rw [if_neg h1, if_neg h2, if_neg h3, if_neg h4] at h
  have := of_decide_eq_true h
  omega

theorem righted_false {v : Val} {d left L : Nat} {w w' : World} {x : Int} (h : (good v d && decide (v.count ≤ left)) = false) (g1 : Below L w w') (g2 : w'.cell? ⟨L, 0, none⟩ = some (.int .i64 x)) (g3 : w'.frozen? ⟨L, 0, none⟩ = false) (g4 : L < w'.heap.size) :
    Righted v d left L w (.returned (.bool false)) w' :=
  ⟨x, by rw [h], g1, g2, g3, g4, fun h1 h2 => by rw [h1, decide_eq_true h2] at h; cases h⟩
/-- Of isRight's loop: j are right. -/
def Going (w : World) (L left d : Nat) (K : Nat → Val) (j : Nat) (wr : World) : Prop :=
  Below L w wr ∧ wr.cell? ⟨L, 0, none⟩ = some (.int .i64 ((left - 1 - sumTo (fun i => (K i).count) j : Nat) : Int)) ∧ wr.frozen? ⟨L, 0, none⟩ = false ∧ L < wr.heap.size ∧ sumTo (fun i => (K i).count) j ≤ left - 1 ∧
    allTo (fun i => (K i).kind != 14 && good (K i) (d - 1)) j = true

set_option maxHeartbeats 4000000 in
set_option maxRecDepth 100000 in
theorem isRight_none (k : Int) (t : ByteArray) (z : Int) (r : Nat) (f : Bool) (a : Option Addr) (c n : Nat) (K : Nat → Val) (w : World) (b o L d : Nat)
    (hL : w.cell? ⟨L, 0, none⟩ = some (.int .i64 0)) (hfr : w.frozen? ⟨L, 0, none⟩ = false) (hLs : L < w.heap.size) :
    Calls Tryz.prog 28 #[.pointer (some ⟨b, o, none⟩), .int .i64 d, .pointer (some ⟨L, 0, none⟩)] w (Righted (.mk k t z r f a c n K) d 0 L w) := by
  have hW0 : Below L w (w.setCell ⟨L, 0, none⟩ (.int .i64 (-1))) := Below.setCell (p := ⟨L, 0, none⟩) (Below.refl L w) (Nat.le_refl _) _
  have hLc : (w.setCell ⟨L, 0, none⟩ (.int .i64 (-1))).cell? ⟨L, 0, none⟩ = some (.int .i64 (-1)) := World.cell?_setCell_same w _ _ hL
  have hLf : (w.setCell ⟨L, 0, none⟩ (.int .i64 (-1))).frozen? ⟨L, 0, none⟩ = false := by rw [World.frozen?_setCell]; exact hfr
  have hLz : L < (w.setCell ⟨L, 0, none⟩ (.int .i64 (-1))).heap.size := by simpa using hLs
  have hfin : ∀ w2 x, Below (w.setCell ⟨L, 0, none⟩ (.int .i64 (-1))).heap.size (w.setCell ⟨L, 0, none⟩ (.int .i64 (-1))) w2 → x = false →
      Righted (.mk k t z r f a c n K) d 0 L w (.returned (.bool x)) w2 := by
    intro w2 x hb hx
    subst hx
    refine ⟨_, ?_, hW0.trans (hb.mono (Nat.le_of_lt hLz)), (hb.cell (p := ⟨L, 0, none⟩) hLz).trans hLc, (hb.frozen (p := ⟨L, 0, none⟩) hLz).trans hLf, Nat.lt_of_lt_of_le hLz hb.size, fun _ h => ?_⟩
    · rw [count_eq, decide_eq_false (by omega)]; simp
    · rw [count_eq] at h; omega
  have Hfin := Lib.hid hfin
  have HLc := Lib.hid hLc
  have Hlt := Lib.hid hLz
  clear hfin hW0 hLf hLz hLc
  go_enter Tryz.func28, Tryz.ntmps28
  go_wp2_with fail
  generalize hW1 : w.setCell _ _ = W1 at *
  obtain ⟨F, F1, F2, F3, -⟩ := over W1
  have hFL : ∀ x, (F x).cell? ⟨L, 0, none⟩ = some (.int .i64 (-1)) := fun x => ((F1 x).cell (p := ⟨L, 0, none⟩) Hlt.out).trans HLc.out
  have HF1 := Lib.hid F1
  clear F1 F3
  refine wp_region_class F (by kernel_rfl) (by kernel_rfl) F2 ?_
  repeat (go_big_quiet_step (fail))
  refine wpQuiet_nil ?_
  intro _ hw'
  obtain ⟨x1, hw2⟩ := hw'
  subst hw2
  go_wp2_with fail
  go_ret
  exact Hfin.out _ _ (HF1.out x1) rfl

set_option maxHeartbeats 8000000 in
set_option maxRecDepth 100000 in
theorem isRight_calls : ∀ (v : Val) (S : Nat → Prop) (w : World) (b o L left d : Nat), (∀ b, S b → b < L) → Lies S w v → v.fits → b < L → At w b o v → w.cell? ⟨L, 0, none⟩ = some (.int .i64 left) → w.frozen? ⟨L, 0, none⟩ = false → L < w.heap.size →
    left ≤ 4611686018427387904 → d ≤ 4611686018427387904 →
    Calls Tryz.prog 28 #[.pointer (some ⟨b, o, none⟩), .int .i64 d, .pointer (some ⟨L, 0, none⟩)] w (Righted v d left L w) := by
  intro v
  induction v with
  | no => exact fun _ _ _ _ _ _ _ _ hl => hl.elim
  | mk k t z r f a c n K ih =>
    intro S w b o L left d hS hl hfit hbL ha hL hfr hLs hl1 hd1
    obtain ⟨⟨-, -, -, -, -, hr, hnc, hcm, hnm⟩, hadr, hkids⟩ := hl
    obtain ⟨hT, hfits⟩ := hfit
    by_cases hl0 : left = 0
    · subst hl0; exact isRight_none k t z r f a c n K w b o L d hL hfr hLs
    replace hl0 : 0 < left := by omega
    cases hh : headB k t z r f n with
    | false => exact isRight_head k t z r f a c n K w b o L left d hbL ha hr (by omega) hT hL hfr hLs hl1 hl0 hh
    | true =>
      have hlw : IntKind.i64.wrap ((left : Int) - 1) = (left : Int) - 1 := IntWalk.i64_in _ (by omega)
      have hW0 : Below L w (w.setCell ⟨L, 0, none⟩ (.int .i64 ((left : Int) - 1))) := Below.setCell (p := ⟨L, 0, none⟩) (Below.refl L w) (Nat.le_refl _) _
      have hLc : (w.setCell ⟨L, 0, none⟩ (.int .i64 ((left : Int) - 1))).cell? ⟨L, 0, none⟩ = some (.int .i64 ((left : Int) - 1)) := World.cell?_setCell_same w _ _ hL
      have hLf : (w.setCell ⟨L, 0, none⟩ (.int .i64 ((left : Int) - 1))).frozen? ⟨L, 0, none⟩ = false := by rw [World.frozen?_setCell]; exact hfr
      have hLz : L < (w.setCell ⟨L, 0, none⟩ (.int .i64 ((left : Int) - 1))).heap.size := by simpa using hLs
      have hcls : b < (w.setCell ⟨L, 0, none⟩ (.int .i64 ((left : Int) - 1))).heap.size := Nat.lt_trans hbL hLz
      have ha1 := ha.below hW0 hbL
      have Ha0 := Lib.hid ha
      obtain ⟨x0, -, -, -, -, -⟩ := ha
      have hneg : decide ((left : Int) - 1 < 0) = false := decide_eq_false (by omega)
      have h3 := hh
      unfold headB at h3
      simp only [Bool.and_eq_true] at h3
      obtain ⟨⟨ho, ht⟩, hlb⟩ := h3
      have hstart : ∀ W2, Below (w.setCell ⟨L, 0, none⟩ (.int .i64 ((left : Int) - 1))).heap.size (w.setCell ⟨L, 0, none⟩ (.int .i64 ((left : Int) - 1))) W2 → Going w L left d K 0 W2 := fun W2 hb =>
        ⟨hW0.trans (hb.mono (Nat.le_of_lt hLz)), by rw [(hb.cell (p := ⟨L, 0, none⟩) hLz).trans hLc]; unfold sumTo; rw [show ((left - 1 - 0 : Nat) : Int) = (left : Int) - 1 by omega],
          (hb.frozen (p := ⟨L, 0, none⟩) hLz).trans hLf, Nat.lt_of_lt_of_le hLz hb.size, Nat.zero_le _, rfl⟩
      have Hstart := Lib.hid hstart
      have Hcls := Lib.hid hcls
      have Ha1 := Lib.hid ha1
      have HLc := Lib.hid hLc
      have HT := Lib.hid hT
      have Hlt := Lib.hid hLz
      have Hh := Lib.hid hh
      have Ho := Lib.hid ho
      have Ht := Lib.hid ht
      have Hlb := Lib.hid hlb
      have Hadr := Lib.hid hadr
      have Hk := Lib.hid hkids
      have Hih := Lib.hid ih
      have HS := Lib.hid hS
      have Hfits := Lib.hid hfits
      have HHL := Lib.hid (hasList_calls k)
      clear hstart hcls ha1 hW0 hT hLf hLz hh ho ht hlb hadr hkids ih hS hfits
      go_enter Tryz.func28, Tryz.ntmps28
      go_wp2_with fail
      generalize hW1 : w.setCell _ _ = W1 at *
      obtain ⟨F, F1, F2, F3, -⟩ := over W1
      have hFL : ∀ x, (F x).cell? ⟨L, 0, none⟩ = some (.int .i64 ((left : Int) - 1)) := fun x => ((F1 x).cell (p := ⟨L, 0, none⟩) Hlt.out).trans HLc.out
      have HO : Hid (∀ x, Calls _ _ _ _ _) := Lib.hid fun x => hasOwn_calls k t z r f a c n K (F x) b o (Ha1.out.below (F1 x) Hcls.out) hr
      rw [Ho.out] at HO
      have hF0 : ∀ x, (F x).cell? ⟨b, o, none⟩ = some (.int .i64 k) := fun x => (Ha1.out.below (F1 x) Hcls.out).1
      have hF1 : ∀ x, (F x).cell? ⟨b, o + 1, none⟩ = some (.string t) := fun x => (Ha1.out.below (F1 x) Hcls.out).2.1
      have hF5 : ∀ x, (F x).cell? ⟨b, o + 5, none⟩ = some (.slice a n c) := fun x => (Ha1.out.below (F1 x) Hcls.out).2.2.2.2.2
      have HT2 : Hid (∀ x, Calls _ _ _ (F x) _) := Lib.hid fun x => HT.out (F x)
      rw [Ht.out] at HT2
      have HL2 : Hid (∀ x, Calls _ _ _ (F x) _) := Lib.hid fun x => listFits_calls k n (by omega) (F x)
      rw [Hlb.out] at HL2
      have HF1 := Lib.hid F1
      have HF3 := Lib.hid F3
      clear F1 F3
      refine wp_region_class F (by kernel_rfl) (by kernel_rfl) F2 ?_
      repeat (go_big_quiet_step (first | (go_at_call 41; exact quiet_same (HO.out _)) | (go_at_call 42; exact quiet_over HF3.out (HT2.out _)) | (go_at_call 43; exact quiet_same (HL2.out _))))
      refine wpQuiet_nil ?_
      intro _ hw'
      obtain ⟨x1, hw2⟩ := hw'
      subst hw2
      have hg0 := Hstart.out _ (HF1.out x1)
      have hc0 := hF0 x1
      have hc5 := hF5 x1
      have hat1 := Ha1.out.below (HF1.out x1) Hcls.out
      clear hFL hF0 hF1 hF5 F2 hneg hlw
      generalize F x1 = W2 at *
      have Hg0 := Lib.hid hg0
      have Hat1 := Lib.hid hat1
      clear hg0 hat1
      cases hk : lists k with
      | true =>
        by_cases hd0 : d = 0
        · subst hd0
          have hg : good (.mk k t z r f a c n K) 0 = false := by rw [good_eq, hk]; simp
          have Hg := Lib.hid hg
          rw [hk] at HHL
          clear hk hg
          go_wp2_with fail
          refine (HHL.out _).mono ?_; rintro en w' ⟨rfl, rfl⟩
          go_wp2_with fail
          go_ret
          obtain ⟨g1, g2, g3, g4, -, -⟩ := Hg0.out
          exact ⟨_, by rw [Hg.out]; rfl, g1, g2, g3, g4, fun h => by rw [Hg.out] at h; cases h⟩
        · have hde : ((d : Int) == 0) = false := by rw [beq_eq_false_iff_ne]; omega
          have Hd : Hid (lists k = true → (lists k && d == 0) = false) := Lib.hid fun _ => by simp [hd0]
          have Hk0 := Lib.hid hk
          rw [hk] at HHL
          clear hk
          go_wp2_with fail
          refine (HHL.out _).mono ?_; rintro en w' ⟨rfl, rfl⟩
          go_wp2_with fail
          go_loopw [61] (fun i wr => ∃ j : Nat, j ≤ n ∧ i = .int .i64 j ∧ Going w L left d K j wr) (fun i _ => n - (intOf i).toNat)
          case atStart => exact ⟨0, by omega, rfl, Hg0.out⟩
          case round =>
            obtain ⟨j, hj, rfl, hg⟩ := hrel
            by_cases hlt : j < n
            · obtain ⟨b2, o2, hab, hb2⟩ := Hadr.out (by omega)
              subst hab
              have hjn : j < c := by omega
              obtain ⟨hat, hls⟩ := Hk.out j hlt
              have hat := (hat b2 o2 rfl).below hg.1 (HS.out _ hb2)
              have hls := hls.below hg.1 HS.out
              obtain ⟨g1, g2, g3, g4, g5, g6⟩ := hg
              have hcall := Hih.out j S wr b2 (o2 + j * 6) L (left - 1 - sumTo (fun i => (K i).count) j) (d - 1) HS.out hls (Hfits.out j hlt) (HS.out _ hb2) hat g2 g3 g4 (by omega) (by omega)
              rw [show ((d - 1 : Nat) : Int) = (d : Int) - 1 by omega] at hcall
              have hv5 := (Ha0.out.below g1 hbL).2.2.2.2.2
              have hsum := sumTo_succ (fun i => (K i).count) j
              have hall := allTo_succ (fun i => (K i).kind != 14 && good (K i) (d - 1)) j
              have hmono := sumTo_up (g := fun i => (K i).count) (n := j + 1) (m := n) (by omega)
              have hno : (((K j).kind != 14 && good (K j) (d - 1)) && decide ((K j).count ≤ left - 1 - sumTo (fun i => (K i).count) j)) = false →
                  (good (.mk k t z r f (some ⟨b2, o2, none⟩) c n K) d && decide ((Val.mk k t z r f (some ⟨b2, o2, none⟩) c n K).count ≤ left)) = false := by
                intro h
                rw [Bool.and_eq_false_iff] at h
                rcases h with h | h
                · have := allTo_false (g := fun i => (K i).kind != 14 && good (K i) (d - 1)) hlt h
                  rw [good_eq, this]; simp
                · have h := of_decide_eq_false h
                  rw [count_eq, decide_eq_false (by omega)]; simp
              have Hno := Lib.hid hno
              have Hg := Lib.hid g1
              have Hall := Lib.hid g6
              have Hsum := Lib.hid hsum
              have Hals := Lib.hid hall
              have Hg2 := Lib.hid g5
              generalize hK : K j = x at *
              cases x with
              | no => exact hat.elim
              | mk k2 t2 z2 r2 f2 a2 c2 n2 K2 =>
                obtain ⟨h0, -, -, -, -, -⟩ := hat
                have HK := Lib.hid hK
                have Hcl := Lib.hid hcall
                have G2 := Lib.hid g2
                have G3 := Lib.hid g3
                clear hK hcall g1 g2 g3 g5 g6 hls hsum hall hmono hno
                by_cases h14 : k2 = 14
                · subst h14
                  go_wp2_with fail
                  go_ret
                  exact righted_false (Hno.out (by simp [Val.kind])) Hg.out G2.out G3.out g4
                · have e14 : (k2 == 14) = false := by simpa using h14
                  have H14 := Lib.hid h14
                  clear h14
                  go_wp2_with fail
                  refine Hcl.out.mono ?_; rintro en w3 ⟨x, rfl, hb3, hc3, hf3, hs3, hx3⟩
                  have hbb := Hg.out.trans hb3
                  have Hbb := Lib.hid hbb
                  have Hc3 := Lib.hid hc3
                  have Hf3 := Lib.hid hf3
                  have Hx3 := Lib.hid hx3
                  cases hres : (good (.mk k2 t2 z2 r2 f2 a2 c2 n2 K2) (d - 1) && decide ((Val.mk k2 t2 z2 r2 f2 a2 c2 n2 K2).count ≤ left - 1 - sumTo (fun i => (K i).count) j)) with
                  | false =>
                    have Hres := Lib.hid hres
                    clear hb3 hc3 hf3 hx3 hbb hres
                    go_wp2_with fail
                    go_ret
                    exact righted_false (Hno.out (by rw [show ((Val.mk k2 t2 z2 r2 f2 a2 c2 n2 K2).kind != 14) = true by simpa [Val.kind] using H14.out]; exact Hres.out)) Hbb.out Hc3.out Hf3.out hs3
                  | true =>
                    have Hres := Lib.hid hres
                    clear hb3 hc3 hf3 hx3 hbb hres
                    go_wp2_with fail
                    go_roundw
                    case rel =>
                      have hres := Hres.out
                      simp only [Bool.and_eq_true] at hres
                      have hcnt := of_decide_eq_true hres.2
                      have hx := Hx3.out hres.1 hcnt
                      subst hx
                      have hsum := Hsum.out
                      have hg2 := Hg2.out
                      refine ⟨j + 1, by omega, by go_num, Hbb.out, ?_, Hf3.out, hs3, by omega, ?_⟩
                      · rw [Hc3.out, hsum]
                        congr 2
                        omega
                      · rw [Hals.out, Hall.out, hres.1]
                        simpa [Val.kind] using H14.out
                    case measure => simp [intOf]; omega
            · obtain rfl : j = n := by omega
              have Hg := Lib.hid hg
              clear hg
              go_wp2_with fail
              go_ret
              obtain ⟨g1, g2, g3, g4, g5, g6⟩ := Hg.out
              have hgood : good (.mk k t z r f a c j K) d = true := by rw [good_eq, Hh.out, Hd.out Hk0.out, g6]; rfl
              have hcnt : (Val.mk k t z r f a c j K).count ≤ left := by rw [count_eq]; omega
              exact ⟨_, by rw [hgood, decide_eq_true hcnt]; rfl, g1, g2, g3, g4, fun _ _ => by rw [count_eq]; congr 1; omega⟩
      | false =>
        obtain rfl : n = 0 := by
          by_cases h : 0 < n
          · have := lists_of_n Hh.out h
            rw [hk] at this; cases this
          · omega
        have Hk0 := Lib.hid hk
        rw [hk] at HHL
        clear hk
        go_wp2_with fail
        refine (HHL.out _).mono ?_; rintro en w' ⟨rfl, rfl⟩
        go_wp2_with fail
        refine wp_loop_rounds 1 ?_
        rw [rounds_succ]
        go_wp2_with fail
        go_ret
        obtain ⟨g1, g2, g3, g4, g5, g6⟩ := Hg0.out
        have hgood : good (.mk k t z r f a c 0 K) d = true := by rw [good_eq, Hh.out, Hk0.out]; rfl
        have hcnt : (Val.mk k t z r f a c 0 K).count ≤ left := by rw [count_eq]; unfold sumTo; omega
        exact ⟨_, by rw [hgood, decide_eq_true hcnt]; rfl, g1, g2, g3, g4, fun _ _ => by rw [count_eq]; congr 1⟩
end Go.Proofs.YtimgkbpiengnjaaGreatDoor
