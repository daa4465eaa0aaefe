/- The document's own of layer 3 at every value; its all and Right. No condition but bounds. -/
import Derived.Test.YtpmlhmdmnbmnnaaGreatDoorVq2
import Derived.Test.YtpmlhmdmnbmnnaaGreatDoorVq3
import Derived.Test.YtpmlhmdmnbmnnaaGreatDoorVpM
namespace Go.Proofs.YtpmlhmdmnbmnnaaGreatDoor
open Go.ChangeShapes Go.WideShapes Go.ChangeAt Go.RowKit

theorem head_out {k : Int} {t : ByteArray} {z : Int} {r : Nat} {f : Bool} {n : Nat} (h : k < 1 ∨ 14 < k) : headB k t z r f n = false := head_no fun hp => by
  have h4 := hp.2.2.2.1
  unfold textB at h4
  rw [if_neg (by omega), if_neg (by omega), if_neg (by omega), if_neg (by omega), if_neg (by omega)] at h4
  simp at h4
set_option maxHeartbeats 2000000 in
set_option maxRecDepth 100000 in
theorem own_out (k : Int) (t : ByteArray) (z : Int) (r : Nat) (f : Bool) (a : Option Addr) (c n : Nat) (K : Nat → Val) (w : World) (h : k < 1 ∨ 14 < k) :
    Calls Tryz.prog 64 #[(Val.mk k t z r f a c n K).agg] w (Owned k t z r f n w) := by
  have Hf := Lib.hid (head_out (k := k) (t := t) (z := z) (r := r) (f := f) (n := n) h)
  have hbox := fun (o : Obj) => ((Below.refl w.heap.size w).alloc (Nat.le_refl _) o)
  have Hbox := Lib.hid hbox
  clear hbox
  unfold Val.agg
  by_cases h1 : k < 1
  · clear h
    go_enter Tryz.func64, Tryz.ntmps64
    go_wp2_with fail
    go_ret
    exact ⟨by rw [Hf.out]; rfl, Hbox.out _⟩
  · have h2 : 14 < k := by omega
    clear h
    go_enter Tryz.func64, Tryz.ntmps64
    go_wp2_with fail
    go_ret
    exact ⟨by rw [Hf.out]; rfl, Hbox.out _⟩
theorem own_calls (k : Int) (t : ByteArray) (z : Int) (r : Nat) (f : Bool) (a : Option Addr) (c n : Nat) (K : Nat → Val) (w : World) (hr : r < 18446744073709551616) (ht : t.size ≤ 9223372036854775807) (hn : n ≤ 4000000000000) :
    Calls Tryz.prog 64 #[(Val.mk k t z r f a c n K).agg] w (Owned k t z r f n w) := by
  by_cases h : k < 1 ∨ 14 < k
  · exact own_out k t z r f a c n K w h
  · have h : k = 1 ∨ k = 2 ∨ k = 3 ∨ k = 4 ∨ k = 5 ∨ k = 6 ∨ k = 7 ∨ k = 8 ∨ k = 9 ∨ k = 10 ∨ k = 11 ∨ k = 12 ∨ k = 13 ∨ k = 14 := by omega
    rcases h with rfl | rfl | rfl | rfl | rfl | rfl | rfl | rfl | rfl | rfl | rfl | rfl | rfl | rfl
    · exact own_1 t z r f a c n K w hr ht hn
    · exact own_2 t z r f a c n K w hr ht hn
    · exact own_3 t z r f a c n K w hr ht hn
    · exact own_4 t z r f a c n K w hr ht hn
    · exact own_5 t z r f a c n K w hr ht hn
    · exact own_6 t z r f a c n K w hr ht hn
    · exact own_7 t z r f a c n K w hr ht hn
    · exact own_8 t z r f a c n K w hr ht hn
    · exact own_9 t z r f a c n K w hr ht hn
    · exact own_10 t z r f a c n K w hr ht hn
    · exact own_11 t z r f a c n K w hr ht hn
    · exact own_12 t z r f a c n K w hr ht hn
    · exact own_13 t z r f a c n K w hr ht hn
    · exact own_14 t z r f a c n K w hr ht hn

/-- What the document's all answers. -/
def allN : Val → Nat → Bool
  | .no, _ => false
  | .mk k t z r f _ _ n K, d => headB k t z r f n && decide (d ≤ 8) && allTo (fun i => (K i).kind != 14 && allN (K i) (d + 1)) n
theorem allTo_imp {p q : Nat → Bool} {n : Nat} (h : ∀ i, i < n → p i = true → q i = true) (ha : allTo p n = true) : allTo q n = true := by
  induction n with
  | zero => rfl
  | succ n ih =>
    rw [allTo_succ, Bool.and_eq_true] at ha ⊢
    exact ⟨ih (fun i hi => h i (by omega)) ha.1, h n (by omega) ha.2⟩
theorem allN_gs : ∀ (v : Val) (d : Nat), allN v d = true → gs v = true := by
  intro v
  induction v with
  | no => intro d h; exact h
  | mk k t z r f a c n K ih =>
    intro d h
    have h : (headB k t z r f n && decide (d ≤ 8) && allTo (fun i => (K i).kind != 14 && allN (K i) (d + 1)) n) = true := h
    rw [Bool.and_eq_true, Bool.and_eq_true] at h
    show (headB k t z r f n && allTo (fun i => (K i).kind != 14 && gs (K i)) n) = true
    rw [Bool.and_eq_true]
    refine ⟨h.1.1, allTo_imp (fun i hi hp => ?_) h.2⟩
    rw [Bool.and_eq_true] at hp ⊢
    exact ⟨hp.1, ih i (d + 1) hp.2⟩
theorem gs_allN : ∀ (v : Val) (d : Nat), gs v = true → d + v.depth ≤ 8 → allN v d = true := by
  intro v
  induction v with
  | no => intro d h _; exact h
  | mk k t z r f a c n K ih =>
    intro d h hd
    have h : (headB k t z r f n && allTo (fun i => (K i).kind != 14 && gs (K i)) n) = true := h
    rw [Bool.and_eq_true] at h
    have hd : d + (if lists k then 1 + maxTo (fun i => (K i).depth) n else 0) ≤ 8 := hd
    show (headB k t z r f n && decide (d ≤ 8) && allTo (fun i => (K i).kind != 14 && allN (K i) (d + 1)) n) = true
    rw [Bool.and_eq_true, Bool.and_eq_true]
    refine ⟨⟨h.1, decide_eq_true (by omega)⟩, allTo_imp (fun i hi hp => ?_) h.2⟩
    rw [Bool.and_eq_true] at hp ⊢
    rw [if_pos (lists_of_n h.1 (by omega))] at hd
    have := maxTo_le (g := fun i => (K i).depth) hi
    exact ⟨hp.1, ih i (d + 1) hp.2 (by have h9 : (K i).depth ≤ maxTo (fun i => (K i).depth) n := this; omega)⟩
theorem right_check (v : Val) : (allN v 0 && decide (v.depth ≤ 8) && decide (v.count ≤ 1000)) = (checkN v == 0) := by
  rw [check_gs]
  congr 1
  by_cases h : v.depth ≤ 8
  · rw [decide_eq_true h, Bool.and_true, Bool.and_true]
    cases hg : gs v with
    | true => exact gs_allN v 0 hg (by omega)
    | false =>
      cases ha : allN v 0 with
      | false => rfl
      | true => rw [allN_gs v 0 ha] at hg; cases hg
  · rw [decide_eq_false h, Bool.and_false, Bool.and_false]

end Go.Proofs.YtpmlhmdmnbmnnaaGreatDoor
/- The document's all of layer 3 at every value. No condition but bounds. -/
namespace Go.Proofs.YtpmlhmdmnbmnnaaGreatDoor
open Go.ChangeShapes Go.WideShapes Go.ChangeAt Go.RowKit

set_option maxHeartbeats 2000000 in
theorem rall_calls : ∀ (v : Val) (S : Nat → Prop) (w : World) (d : Nat), (∀ b, S b → b < w.heap.size) → Lies S w v → d ≤ 9 →
    Calls Tryz.prog 45 #[v.agg, .int .i64 d] w fun e w' => e = .returned (.bool (allN v d)) ∧ Below w.heap.size w w' := by
  intro v
  induction v with
  | no => exact fun _ _ _ _ hl => hl.elim
  | mk k t z r f a c n K ih =>
    intro S w d hS hl hd
    obtain ⟨⟨-, -, hts, -, -, hrr, hnc, hcm, hnm⟩, hadr, hkids⟩ := hl
    have hT : allN (.mk k t z r f a c n K) d = (headB k t z r f n && decide (d ≤ 8) && allTo (fun i => (K i).kind != 14 && allN (K i) (d + 1)) n) := rfl
    have Hown : Hid (∀ w, Calls _ _ #[.agg #[.int .i64 k, .string t, .int .i64 z, .float .f64 r, .bool f, .slice a n c]] w (fun e w' => e = .returned (.bool (headB k t z r f n)) ∧ Below w.heap.size w w')) := Lib.hid (fun w => own_calls k t z r f a c n K w hrr (by omega) (by omega))
    have Hadr := Lib.hid hadr
    have Hk := Lib.hid hkids
    have Hih := Lib.hid ih
    have HS := Lib.hid hS
    have HW : Hid (Below w.heap.size w (w.alloc (.cells #[.int .i64 k, .string t, .int .i64 z, .float .f64 r, .bool f, .slice a n c] 36))) := Lib.hid ((Below.refl _ _).alloc (Nat.le_refl _) _)
    generalize hHB : headB k t z r f n = hB at *
    have HHB := Lib.hid hHB
    clear hHB
    unfold Val.agg
    generalize allN (.mk k t z r f a c n K) d = tot at *
    have HT := Lib.hid hT
    obtain ⟨q1, q2, q3⟩ := box_facts w k t z r f a c n K
    have Q1 := Lib.hid q1
    have Q2 := Lib.hid q2
    have Q3 := Lib.hid q3
    clear hadr hkids ih hS hT hts hrr q1 q2 q3
    go_enter Tryz.func45, Tryz.ntmps45
    go_wp2_with fail
    generalize hW : w.alloc _ = W at *
    refine (Hown.out _).mono ?_; rintro en wo ⟨rfl, hbo⟩
    have Bo := Lib.hid (bstep HW.out hbo)
    have Ao := Lib.hid (Q3.out.below hbo (by have := Q2.out; omega))
    have Zo : Hid (w.heap.size < wo.heap.size) := Lib.hid (by have := Q2.out; have := hbo.size; omega)
    clear hbo hW Q1 Q2 Q3
    obtain ⟨x0, x1, x2, x3, x4, x5⟩ := Ao.out.lits
    cases hB with
    | false =>
      go_wp2_with fail
      go_ret
      exact ⟨by rw [HT.out]; rfl, Bo.out⟩
    | true =>
      by_cases h8 : 8 < d
      · have e8 : decide (d ≤ 8) = false := decide_eq_false (by omega)
        have HT2 : Hid (tot = false) := Lib.hid (by rw [HT.out, e8]; rfl)
        clear e8
        go_wp2_with fail
        go_ret
        exact ⟨by rw [HT2.out]; rfl, Bo.out⟩
      · have e8 : decide (d ≤ 8) = true := decide_eq_true (by omega)
        have HT2 : Hid (tot = allTo (fun i => (K i).kind != 14 && allN (K i) (d + 1)) n) := Lib.hid (by rw [HT.out, e8]; rfl)
        clear e8 HT
        go_wp2_with fail
        clear x0 x1 x2 x3 x4 x5
        go_loopw [17] (fun i wr => ∃ j : Nat, j ≤ n ∧ i = .int .i64 j ∧ allTo (fun i => (K i).kind != 14 && allN (K i) (d + 1)) j = true ∧ Below wo.heap.size wo wr) (fun i _ => n - (intOf i).toNat)
        case atStart => exact ⟨0, by omega, rfl, rfl, Below.refl _ _⟩
        case round =>
          obtain ⟨j, hj, rfl, hall, hb⟩ := hrel
          have Hall := Lib.hid hall
          clear hall
          by_cases hlt : j < n
          · obtain ⟨b2, o2, rfl, hbs, hat, hls, hS2⟩ := kid_facts HS.out Bo.out hb Hadr.out Hk.out hlt
            have hjn : j < c := by omega
            have hcall := fun W2 (h2 : Below wr.heap.size wr W2) => Hih.out j S W2 (d + 1) (fun b hb => Nat.lt_of_lt_of_le (hS2 b hb) h2.size) (hls.below h2 hS2) (by omega)
            have Hb := Lib.hid hb
            have hs := allTo_succ (fun i => (K i).kind != 14 && allN (K i) (d + 1)) j
            rw [Hall.out, Bool.true_and] at hs
            have hno : ((K j).kind != 14 && allN (K j) (d + 1)) = false → allTo (fun i => (K i).kind != 14 && allN (K i) (d + 1)) n = false := fun h => allTo_false hlt h
            generalize hK : K j = x at *
            cases x with
            | no => exact hat.elim
            | mk k2 t2 z2 r2 f2 a2 c2 n2 K2 =>
              obtain ⟨x0, x1, x2, x3, x4, x5⟩ := hat
              have hk2 : (Val.mk k2 t2 z2 r2 f2 a2 c2 n2 K2).kind = k2 := rfl
              rw [hk2] at hs hno
              generalize hq : allN (.mk k2 t2 z2 r2 f2 a2 c2 n2 K2) (d + 1) = q at *
              have Hcall : Hid (∀ W2, Below wr.heap.size wr W2 → Calls _ _ #[.agg #[.int .i64 k2, .string t2, .int .i64 z2, .float .f64 r2, .bool f2, .slice a2 n2 c2], _] _ _) := Lib.hid hcall
              have HK := Lib.hid hK
              have Hs := Lib.hid hs
              have Hno := Lib.hid hno
              clear hb hK hcall hls hS2 hs hno hq hk2
              by_cases h14 : k2 = 14
              · subst h14
                have Hf : Hid (tot = false) := Lib.hid (HT2.out.trans (Hno.out rfl))
                clear Hno Hs Hcall
                go_wp2_with fail
                go_ret
                exact ⟨by rw [Hf.out]; rfl, bstep Bo.out (bstep Hb.out ((Below.refl _ _).alloc (Nat.le_refl _) _))⟩
              · have e14 : (k2 == 14) = false := by simpa using h14
                have e14' : (k2 != 14) = true := by simpa using h14
                rw [e14'] at Hs Hno
                clear e14' h14
                go_wp2_with fail
                refine (Hcall.out _ ((Below.refl _ _).alloc (Nat.le_refl _) _)).mono ?_; rintro en w3 ⟨rfl, hb3⟩
                have hb4 := bstep Hb.out (bstep ((Below.refl _ _).alloc (Nat.le_refl _) _) hb3)
                have Hb4 := Lib.hid hb4
                clear hb3 hb4
                cases q with
                | false =>
                  have Hf : Hid (tot = false) := Lib.hid (HT2.out.trans (Hno.out rfl))
                  go_wp2_with fail
                  go_ret
                  exact ⟨by rw [Hf.out]; rfl, bstep Bo.out Hb4.out⟩
                | true =>
                  go_wp2_with fail
                  go_roundw
                  case rel => exact ⟨j + 1, by omega, by go_num, by rw [Hs.out]; rfl, Hb4.out⟩
                  case measure => simp [intOf]; omega
          · obtain rfl : j = n := by omega
            have Hb := Lib.hid hb
            clear hb
            go_wp2_with fail
            go_ret
            exact ⟨by rw [HT2.out, Hall.out]; rfl, bstep Bo.out Hb.out⟩
end Go.Proofs.YtpmlhmdmnbmnnaaGreatDoor
/- The document's Right of layer 3 at every small value, and the walk of the law ValueChecks: true at any value. No condition. -/
namespace Go.Proofs.YtpmlhmdmnbmnnaaGreatDoor
open Go.ChangeShapes Go.WideShapes Go.ChangeAt Go.RowKit

set_option maxHeartbeats 2000000 in
theorem right_calls (v : Val) (S : Nat → Prop) (w : World) (hS : ∀ b, S b → b < w.heap.size) (hl : Lies S w v) (hn : v.nest ≤ 65536) (hc : v.count ≤ 1099511627776) :
    Calls Tryz.prog 22 #[v.agg] w fun e w' => e = .returned (.bool (checkN v == 0)) ∧ Below w.heap.size w w' := by
  cases v with
  | no => exact hl.elim
  | mk k t z r f a c n K =>
    obtain ⟨q1, q2, q3⟩ := box_facts w k t z r f a c n K
    have HR := Lib.hid (right_check (.mk k t z r f a c n K))
    have C1 : Hid (∀ w', Below w.heap.size w w' → Calls _ _ #[.agg #[.int .i64 k, .string t, .int .i64 z, .float .f64 r, .bool f, .slice a n c], .int .i64 0] _ _) := Lib.hid (fun w' (h : Below w.heap.size w w') => rall_calls (.mk k t z r f a c n K) S w' 0 (fun b hb => Nat.lt_of_lt_of_le (hS b hb) h.size) (hl.below h hS) (by omega))
    have C2 : Hid (∀ w', Below w.heap.size w w' → Calls _ _ #[.agg #[.int .i64 k, .string t, .int .i64 z, .float .f64 r, .bool f, .slice a n c]] _ _) := Lib.hid (fun w' (h : Below w.heap.size w w') => rdepth_calls (.mk k t z r f a c n K) S w' (fun b hb => Nat.lt_of_lt_of_le (hS b hb) h.size) (hl.below h hS) hn)
    have C3 : Hid (∀ w', Below w.heap.size w w' → Calls _ _ #[.agg #[.int .i64 k, .string t, .int .i64 z, .float .f64 r, .bool f, .slice a n c]] _ _) := Lib.hid (fun w' (h : Below w.heap.size w w') => rcount_calls (.mk k t z r f a c n K) S w' (fun b hb => Nat.lt_of_lt_of_le (hS b hb) h.size) (hl.below h hS) hc)
    have hd2 := depth_le_nest (.mk k t z r f a c n K)
    generalize hav : allN (.mk k t z r f a c n K) 0 = av at *
    generalize hdv : (Val.mk k t z r f a c n K).depth = dv at *
    generalize hcv : (Val.mk k t z r f a c n K).count = cv at *
    generalize checkN (.mk k t z r f a c n K) = ck at *
    have hdb : dv ≤ 65536 := by omega
    unfold Val.agg
    clear hl hS hn hd2 hav hdv hcv
    have Q1 := Lib.hid q1
    have Q2 := Lib.hid q2
    have Q3 := Lib.hid q3
    clear q1 q2 q3
    go_enter Tryz.func22, Tryz.ntmps22
    go_wp2_with fail
    generalize hW : w.alloc _ = W at *
    refine (C1.out _ Q1.out).mono ?_; rintro en w1 ⟨rfl, hb1⟩
    have B1 := Lib.hid (bstep Q1.out hb1)
    have A1 := Lib.hid (Q3.out.below hb1 (by have := Q2.out; omega))
    have Z1 : Hid (w.heap.size < w1.heap.size) := Lib.hid (by have := Q2.out; have := hb1.size; omega)
    clear hb1 hW Q1 Q2 Q3
    obtain ⟨x0, x1, x2, x3, x4, x5⟩ := A1.out.lits
    cases av with
    | false =>
      have Hr : Hid ((ck == 0) = false) := Lib.hid (by rw [← HR.out]; rfl)
      go_wp2_with fail
      go_ret
      exact ⟨by rw [Hr.out]; rfl, B1.out⟩
    | true =>
      go_wp2_with fail
      refine (C2.out _ B1.out).mono ?_; rintro en w2 ⟨rfl, hb2⟩
      have B2 := Lib.hid (bstep B1.out hb2)
      have A2 := Lib.hid (A1.out.below hb2 Z1.out)
      clear hb2 A1 Z1 x0 x1 x2 x3 x4 x5
      obtain ⟨x0, x1, x2, x3, x4, x5⟩ := A2.out.lits
      by_cases h8 : dv ≤ 8
      · have Hr : Hid ((ck == 0) = decide ((cv : Int) ≤ 1000)) := Lib.hid (by
          rw [← HR.out, decide_eq_true h8, Bool.true_and, Bool.true_and]
          congr 1
          exact propext ⟨fun h => by omega, fun h => by omega⟩)
        go_wp2_with fail
        refine (C3.out _ B2.out).mono ?_; rintro en w3 ⟨rfl, hb3⟩
        have B3 := Lib.hid (bstep B2.out hb3)
        clear hb3
        go_wp2_with fail
        go_ret
        exact ⟨by rw [Hr.out]; first | rfl | simp, B3.out⟩
      · have Hr : Hid ((ck == 0) = false) := Lib.hid (by rw [← HR.out, decide_eq_false h8]; rfl)
        go_wp2_with fail
        go_ret
        exact ⟨by rw [Hr.out]; rfl, B2.out⟩

end Go.Proofs.YtpmlhmdmnbmnnaaGreatDoor
