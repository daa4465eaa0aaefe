/- The document's all of layer 3 at every value. No condition but bounds. -/
import Derived.Test.YtiigfcggdjcmfaaDoorVq4
import Derived.Test.YtiigfcggdjcmfaaDoorVp2
namespace Go.Proofs.YtiigfcggdjcmfaaDoor
open Go.ChangeShapes Go.WideShapes Go.ChangeAt Go.RowKit

set_option maxHeartbeats 2000000 in
theorem rall_calls : ∀ (v : Val) (S : Nat → Prop) (w : World) (d : Nat), (∀ b, S b → b < w.heap.size) → Lies S w v → d ≤ 9 →
    Calls Tryd.prog 26 #[v.agg, .int .i64 d] w fun e w' => e = .returned (.bool (allN v d)) ∧ Below w.heap.size w w' := by
  intro v
  induction v with
  | no => exact fun _ _ _ _ hl => hl.elim
  | mk k t z r f a c n K ih =>
    intro S w d hS hl hd
    obtain ⟨⟨-, -, hts, -, -, hrr, hnc, hcm, hnm⟩, hadr, hkids⟩ := hl
    have hT : allN (.mk k t z r f a c n K) d = (headB k t z r f n && decide (d ≤ 8) && allTo (fun i => (K i).kind != 14 && allN (K i) (d + 1)) n) := rfl
    have Hown : Hid (∀ w, Calls _ _ #[.agg #[.int .i64 k, .string t, .int .i64 z, .float .f64 r, .bool f, .slice a n c]] w (fun e w' => e = .returned (.bool (headB k t z r f n)) ∧ Below w.heap.size w w')) := Lib.hid (fun w => own_calls k t z r f a c n K w hrr (by omega) (by omega))
    have Hadr := Lib.hid hadr
    have Hk := Lib.hid hkids
    have Hih := Lib.hid ih
    have HS := Lib.hid hS
    have HW : Hid (Below w.heap.size w (w.alloc (.cells #[.int .i64 k, .string t, .int .i64 z, .float .f64 r, .bool f, .slice a n c] 25))) := Lib.hid ((Below.refl _ _).alloc (Nat.le_refl _) _)
    generalize hHB : headB k t z r f n = hB at *
    have HHB := Lib.hid hHB
    clear hHB
    unfold Val.agg
    generalize allN (.mk k t z r f a c n K) d = tot at *
    have HT := Lib.hid hT
    obtain ⟨q1, q2, q3⟩ := box_facts w k t z r f a c n K
    have Q1 := Lib.hid q1
    have Q2 := Lib.hid q2
    have Q3 := Lib.hid q3
    clear hadr hkids ih hS hT hts hrr q1 q2 q3
    go_enter Tryd.func26, Tryd.ntmps26
    go_wp2_with fail
    generalize hW : w.alloc _ = W at *
    refine (Hown.out _).mono ?_; rintro en wo ⟨rfl, hbo⟩
    have Bo := Lib.hid (bstep HW.out hbo)
    have Ao := Lib.hid (Q3.out.below hbo (by have := Q2.out; omega))
    have Zo : Hid (w.heap.size < wo.heap.size) := Lib.hid (by have := Q2.out; have := hbo.size; omega)
    clear hbo hW Q1 Q2 Q3
    obtain ⟨x0, x1, x2, x3, x4, x5⟩ := Ao.out.lits
    cases hB with
    | false =>
      go_wp2_with fail
      go_ret
      exact ⟨by rw [HT.out]; rfl, Bo.out⟩
    | true =>
      by_cases h8 : 8 < d
      · have e8 : decide (d ≤ 8) = false := decide_eq_false (by omega)
        have HT2 : Hid (tot = false) := Lib.hid (by rw [HT.out, e8]; rfl)
        clear e8
        go_wp2_with fail
        go_ret
        exact ⟨by rw [HT2.out]; rfl, Bo.out⟩
      · have e8 : decide (d ≤ 8) = true := decide_eq_true (by omega)
        have HT2 : Hid (tot = allTo (fun i => (K i).kind != 14 && allN (K i) (d + 1)) n) := Lib.hid (by rw [HT.out, e8]; rfl)
        clear e8 HT
        go_wp2_with fail
        clear x0 x1 x2 x3 x4 x5
        go_loopw [17] (fun i wr => ∃ j : Nat, j ≤ n ∧ i = .int .i64 j ∧ allTo (fun i => (K i).kind != 14 && allN (K i) (d + 1)) j = true ∧ Below wo.heap.size wo wr) (fun i _ => n - (intOf i).toNat)
        case atStart => exact ⟨0, by omega, rfl, rfl, Below.refl _ _⟩
        case round =>
          obtain ⟨j, hj, rfl, hall, hb⟩ := hrel
          have Hall := Lib.hid hall
          clear hall
          by_cases hlt : j < n
          · obtain ⟨b2, o2, rfl, hbs, hat, hls, hS2⟩ := kid_facts HS.out Bo.out hb Hadr.out Hk.out hlt
            have hjn : j < c := by omega
            have hcall := fun W2 (h2 : Below wr.heap.size wr W2) => Hih.out j S W2 (d + 1) (fun b hb => Nat.lt_of_lt_of_le (hS2 b hb) h2.size) (hls.below h2 hS2) (by omega)
            have Hb := Lib.hid hb
            have hs := allTo_succ (fun i => (K i).kind != 14 && allN (K i) (d + 1)) j
            rw [Hall.out, Bool.true_and] at hs
            have hno : ((K j).kind != 14 && allN (K j) (d + 1)) = false → allTo (fun i => (K i).kind != 14 && allN (K i) (d + 1)) n = false := fun h => allTo_false hlt h
            generalize hK : K j = x at *
            cases x with
            | no => exact hat.elim
            | mk k2 t2 z2 r2 f2 a2 c2 n2 K2 =>
              obtain ⟨x0, x1, x2, x3, x4, x5⟩ := hat
              have hk2 : (Val.mk k2 t2 z2 r2 f2 a2 c2 n2 K2).kind = k2 := rfl
              rw [hk2] at hs hno
              generalize hq : allN (.mk k2 t2 z2 r2 f2 a2 c2 n2 K2) (d + 1) = q at *
              have Hcall : Hid (∀ W2, Below wr.heap.size wr W2 → Calls _ _ #[.agg #[.int .i64 k2, .string t2, .int .i64 z2, .float .f64 r2, .bool f2, .slice a2 n2 c2], _] _ _) := Lib.hid hcall
              have HK := Lib.hid hK
              have Hs := Lib.hid hs
              have Hno := Lib.hid hno
              clear hb hK hcall hls hS2 hs hno hq hk2
              by_cases h14 : k2 = 14
              · subst h14
                have Hf : Hid (tot = false) := Lib.hid (HT2.out.trans (Hno.out rfl))
                clear Hno Hs Hcall
                go_wp2_with fail
                go_ret
                exact ⟨by rw [Hf.out]; rfl, bstep Bo.out (bstep Hb.out ((Below.refl _ _).alloc (Nat.le_refl _) _))⟩
              · have e14 : (k2 == 14) = false := by simpa using h14
                have e14' : (k2 != 14) = true := by simpa using h14
                rw [e14'] at Hs Hno
                clear e14' h14
                go_wp2_with fail
                refine (Hcall.out _ ((Below.refl _ _).alloc (Nat.le_refl _) _)).mono ?_; rintro en w3 ⟨rfl, hb3⟩
                have hb4 := bstep Hb.out (bstep ((Below.refl _ _).alloc (Nat.le_refl _) _) hb3)
                have Hb4 := Lib.hid hb4
                clear hb3 hb4
                cases q with
                | false =>
                  have Hf : Hid (tot = false) := Lib.hid (HT2.out.trans (Hno.out rfl))
                  go_wp2_with fail
                  go_ret
                  exact ⟨by rw [Hf.out]; rfl, bstep Bo.out Hb4.out⟩
                | true =>
                  go_wp2_with fail
                  go_roundw
                  case rel => exact ⟨j + 1, by omega, by go_num, by rw [Hs.out]; rfl, Hb4.out⟩
                  case measure => simp [intOf]; omega
          · obtain rfl : j = n := by omega
            have Hb := Lib.hid hb
            clear hb
            go_wp2_with fail
            go_ret
            exact ⟨by rw [HT2.out, Hall.out]; rfl, bstep Bo.out Hb.out⟩
end Go.Proofs.YtiigfcggdjcmfaaDoor
