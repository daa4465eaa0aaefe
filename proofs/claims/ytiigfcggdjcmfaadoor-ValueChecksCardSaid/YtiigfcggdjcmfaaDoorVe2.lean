/- The document's Small, Count, Lists and Depth of values. Conditions: of Count and Depth, that they fit. -/
import Derived.Test.YtiigfcggdjcmfaaDoorVe1
namespace Go.Proofs.YtiigfcggdjcmfaaDoor
open Go.ChangeShapes Go.WideShapes Go.ChangeAt Go.RowKit

def small (v : Val) : Bool := decide (0 ≤ shal v 30 3000)
theorem foldS_facts {K : Nat → Val} {deep : Int} (ih : ∀ i (d m : Int), 0 ≤ m → 0 ≤ shal (K i) d m → shal (K i) d m = m - (K i).count ∧ ((K i).nest : Int) ≤ d + 1) {m : Int} (_hm : 0 ≤ m) : ∀ n, 0 ≤ foldS (fun i m => shal (K i) deep m) n m →
    foldS (fun i m => shal (K i) deep m) n m = m - (sumTo (fun i => (K i).count) n : Nat) ∧ ∀ i, i < n → ((K i).nest : Int) ≤ deep + 1 := by
  intro n
  induction n with
  | zero => intro _; exact ⟨by show m = m - ((0 : Nat) : Int); omega, fun i hi => absurd hi (by omega)⟩
  | succ n hn =>
    intro h
    rw [foldS_succ] at h ⊢
    by_cases h1 : foldS (fun i m => shal (K i) deep m) n m < 0
    · rw [if_pos h1] at h; omega
    · rw [if_neg h1] at h ⊢
      by_cases h2 : shal (K n) deep (foldS (fun i m => shal (K i) deep m) n m) < 0
      · rw [if_pos h2] at h; omega
      · rw [if_neg h2]
        obtain ⟨e1, e2⟩ := hn (by omega)
        obtain ⟨e3, e4⟩ := ih n deep _ (by omega) (Int.not_lt.mp h2)
        refine ⟨?_, fun i hi => ?_⟩
        · rw [e3, e1, sumTo_succ]; omega
        · by_cases e : i = n
          · subst e; exact e4
          · exact e2 i (by omega)
theorem shal_facts (v : Val) : ∀ (d m : Int), 0 ≤ m → 0 ≤ shal v d m → shal v d m = m - v.count ∧ (v.nest : Int) ≤ d + 1 := by
  induction v with
  | no => intro d m _ h; exact absurd h (by show ¬ (0 : Int) ≤ -1; omega)
  | mk k t z r f a c n K ih =>
    intro d m hm h
    have e : shal (.mk k t z r f a c n K) d m = if d < 0 ∨ m < 1 then -1 else foldS (fun i m => shal (K i) (d - 1) m) n (m - 1) := rfl
    rw [e] at h ⊢
    by_cases h1 : d < 0 ∨ m < 1
    · rw [if_pos h1] at h; omega
    · rw [if_neg h1] at h ⊢
      obtain ⟨e1, e2⟩ := foldS_facts ih (m := m - 1) (by omega) n h
      refine ⟨?_, ?_⟩
      · rw [e1, count_eq]; omega
      · unfold Val.nest
        have : maxTo (fun i => (K i).nest) n ≤ d.toNat := by
          clear e1 h e
          induction n with
          | zero => exact Nat.zero_le _
          | succ n hn =>
            rw [maxTo_succ]
            have := e2 n (by omega)
            have := hn fun i hi => e2 i (by omega)
            omega
        omega
theorem small_facts {v : Val} (h : small v = true) : v.count ≤ 3000 ∧ v.nest ≤ 31 := by
  have h := of_decide_eq_true h
  obtain ⟨e1, e2⟩ := shal_facts v 30 3000 (by omega) h
  omega

set_option maxHeartbeats 1000000 in
theorem small_calls (v : Val) (S : Nat → Prop) (w : World) (hS : ∀ b, S b → b < w.heap.size) (hl : Lies S w v) :
    Calls Tryd.prog 8 #[v.agg] w fun e w' => e = .returned (.bool (small v)) ∧ Below w.heap.size w w' := by
  cases v with
  | no => exact hl.elim
  | mk k t z r f a c n K =>
    have hb : Below w.heap.size w (w.alloc (.cells #[.int .i64 k, .string t, .int .i64 z, .float .f64 r, .bool f, .slice a n c] 25)) := (Below.refl _ _).alloc (Nat.le_refl _) _
    have hcall := shallow_calls (.mk k t z r f a c n K) S _ 30 3000 (fun b hb2 => Nat.lt_of_lt_of_le (hS b hb2) hb.size) (hl.below hb hS) (by omega) (by omega) (by omega) (by omega)
    have Hcall : Hid (Calls _ _ #[.agg #[.int .i64 k, .string t, .int .i64 z, .float .f64 r, .bool f, .slice a n c], _, _] _ _) := Lib.hid hcall
    have HB := Lib.hid hb
    unfold small Val.agg
    clear hcall hb hl hS
    generalize shal (.mk k t z r f a c n K) 30 3000 = s at *
    go_enter Tryd.func8, Tryd.ntmps8
    go_wp2_with fail
    refine Hcall.out.mono ?_; rintro en w3 ⟨rfl, hb3⟩
    have Hb3 := Lib.hid (bstep HB.out hb3)
    clear hb3
    go_wp2_with fail
    go_ret
    exact ⟨rfl, Hb3.out⟩

set_option maxHeartbeats 2000000 in
theorem rcount_calls : ∀ (v : Val) (S : Nat → Prop) (w : World), (∀ b, S b → b < w.heap.size) → Lies S w v → v.count ≤ 1099511627776 →
    Calls Tryd.prog 14 #[v.agg] w fun e w' => e = .returned (.int .i64 v.count) ∧ Below w.heap.size w w' := by
  intro v
  induction v with
  | no => exact fun _ _ _ hl => hl.elim
  | mk k t z r f a c n K ih =>
    intro S w hS hl hc
    obtain ⟨⟨-, -, -, -, -, -, hnc, hcm, hnm⟩, hadr, hkids⟩ := hl
    have hC : ∀ i, i ≤ n → 1 + sumTo (fun i => (K i).count) i ≤ 1099511627776 := fun i hi => by
      unfold Val.count at hc
      have := sumTo_up (g := fun i => (K i).count) hi
      omega
    have HC := Lib.hid hC
    have HCt : Hid (Val.count (.mk k t z r f a c n K) = 1 + sumTo (fun i => (K i).count) n) := Lib.hid rfl
    have Hadr := Lib.hid hadr
    have Hk := Lib.hid hkids
    have Hih := Lib.hid ih
    have HS := Lib.hid hS
    have HW : Hid (Below w.heap.size w (w.alloc (.cells #[.int .i64 k, .string t, .int .i64 z, .float .f64 r, .bool f, .slice a n c] 25))) := Lib.hid ((Below.refl _ _).alloc (Nat.le_refl _) _)
    generalize Val.count (.mk k t z r f a c n K) = tot at *
    unfold Val.agg
    clear hadr hkids ih hS hC hc
    go_enter Tryd.func14, Tryd.ntmps14
    go_wp2_with fail
    generalize hW : w.alloc _ = W at *
    go_loopw [3, 9] (fun m i wr => ∃ j : Nat, j ≤ n ∧ i = .int .i64 j ∧ m = .int .i64 ((1 + sumTo (fun i => (K i).count) j : Nat) : Int) ∧ Below W.heap.size W wr) (fun _ i _ => n - (intOf i).toNat)
    case atStart => exact ⟨0, by omega, rfl, rfl, Below.refl _ _⟩
    case round =>
      obtain ⟨j, hj, rfl, rfl, hb⟩ := hrel
      by_cases hlt : j < n
      · obtain ⟨b2, o2, rfl, hbs, hat, hls, hS2⟩ := kid_facts HS.out HW.out hb Hadr.out Hk.out hlt
        have hjn : j < c := by omega
        have hcs := HC.out (j + 1) (by omega)
        rw [sumTo_succ] at hcs
        have hcall := fun W2 (h2 : Below wr.heap.size wr W2) => Hih.out j S W2 (fun b hb => Nat.lt_of_lt_of_le (hS2 b hb) h2.size) (hls.below h2 hS2) (by omega)
        have Hb := Lib.hid hb
        have hb1 : (1 : Int) ≤ 1 + (sumTo (fun i => (K i).count) j : Nat) := by omega
        have Hss := Lib.hid (sumTo_succ (fun i => (K i).count) j)
        generalize hK : K j = x at *
        cases x with
        | no => exact hat.elim
        | mk k2 t2 z2 r2 f2 a2 c2 n2 K2 =>
          obtain ⟨x0, x1, x2, x3, x4, x5⟩ := hat
          generalize hq : (Val.mk k2 t2 z2 r2 f2 a2 c2 n2 K2).count = q at *
          have Hcall : Hid (∀ W2, Below wr.heap.size wr W2 → Calls _ _ #[.agg #[.int .i64 k2, .string t2, .int .i64 z2, .float .f64 r2, .bool f2, .slice a2 n2 c2]] _ _) := Lib.hid hcall
          have HK := Lib.hid hK
          have Hq := Lib.hid hq
          clear hb hK hcall hls hS2 hq
          go_wp2_with fail
          refine (Hcall.out _ ((Below.refl _ _).alloc (Nat.le_refl _) _)).mono ?_; rintro en w3 ⟨rfl, hb3⟩
          have hb4 := bstep Hb.out (bstep ((Below.refl _ _).alloc (Nat.le_refl _) _) hb3)
          have Hb4 := Lib.hid hb4
          clear hb3 hb4
          go_wp2_with fail
          go_roundw
          case rel => exact ⟨j + 1, by omega, by go_num, by rw [Hss.out]; go_num, Hb4.out⟩
          case measure => simp [intOf]; omega
      · obtain rfl : j = n := by omega
        have Hb := Lib.hid hb
        clear hb
        go_wp2_with fail
        go_ret
        exact ⟨ret_i64 (by have := HCt.out; omega), bstep HW.out Hb.out⟩

theorem rlists_calls (k : Int) (w : World) : Calls Tryd.prog 28 #[.int .i64 k] w fun e w' => e = .returned (.bool (lists k)) ∧ w = w' := by
  by_cases h1 : k = 5
  · subst h1
    go_enter Tryd.func28, Tryd.ntmps28
    go_wp2
    go_ret
    exact ⟨rfl, rfl⟩
  have e1 : (k == 5) = false := by simpa using h1
  by_cases h2 : 12 ≤ k
  · by_cases h3 : k ≤ 14
    · have he : lists k = true := by
        rcases (show k = 12 ∨ k = 13 ∨ k = 14 by omega) with rfl | rfl | rfl <;> rfl
      rw [he]
      clear he h1
      go_enter Tryd.func28, Tryd.ntmps28
      go_wp2
      go_ret
      exact ⟨rfl, rfl⟩
    · have he : lists k = false := by unfold lists; rw [e1]; simp; omega
      rw [he]
      clear he h1
      go_enter Tryd.func28, Tryd.ntmps28
      go_wp2
      go_ret
      exact ⟨rfl, rfl⟩
  · have he : lists k = false := by unfold lists; rw [e1]; simp; omega
    rw [he]
    clear he h1
    go_enter Tryd.func28, Tryd.ntmps28
    go_wp2
    go_ret
    exact ⟨rfl, rfl⟩

set_option maxHeartbeats 2000000 in
theorem rdepth_calls : ∀ (v : Val) (S : Nat → Prop) (w : World), (∀ b, S b → b < w.heap.size) → Lies S w v → v.nest ≤ 65536 →
    Calls Tryd.prog 12 #[v.agg] w fun e w' => e = .returned (.int .i64 v.depth) ∧ Below w.heap.size w w' := by
  intro v
  induction v with
  | no => exact fun _ _ _ hl => hl.elim
  | mk k t z r f a c n K ih =>
    intro S w hS hl hn
    obtain ⟨⟨-, -, -, -, -, -, hnc, hcm, hnm⟩, hadr, hkids⟩ := hl
    have hN : ∀ i, i < n → (K i).nest ≤ 65536 := fun i hi => by
      unfold Val.nest at hn
      have := maxTo_le (g := fun i => (K i).nest) hi
      omega
    have hD : ∀ i, i ≤ n → maxTo (fun i => (K i).depth) i ≤ 65536 := fun i hi => by
      have h1 := maxTo_mono (n := i) fun j _ => depth_le_nest (K j)
      have h2 := maxTo_up (g := fun i => (K i).nest) hi
      unfold Val.nest at hn
      omega
    have hT : Val.depth (.mk k t z r f a c n K) = if lists k then 1 + maxTo (fun i => (K i).depth) n else 0 := rfl
    have HL := Lib.hid (rlists_calls k)
    have HN := Lib.hid hN
    have HD := Lib.hid hD
    have Hadr := Lib.hid hadr
    have Hk := Lib.hid hkids
    have Hih := Lib.hid ih
    have HS := Lib.hid hS
    have HW : Hid (Below w.heap.size w (w.alloc (.cells #[.int .i64 k, .string t, .int .i64 z, .float .f64 r, .bool f, .slice a n c] 25))) := Lib.hid ((Below.refl _ _).alloc (Nat.le_refl _) _)
    generalize Val.depth (.mk k t z r f a c n K) = tot at *
    unfold Val.agg
    clear hadr hkids ih hS hN hD hn
    cases hk : lists k with
    | false =>
      rw [hk] at HL hT
      have HT : Hid (tot = 0) := Lib.hid hT
      clear hk hT
      go_enter Tryd.func12, Tryd.ntmps12
      go_wp2_with fail
      refine (HL.out _).mono ?_; rintro en w' ⟨rfl, rfl⟩
      go_wp2_with fail
      go_ret
      exact ⟨ret_i64 (by have := HT.out; omega), HW.out⟩
    | true =>
      rw [hk] at HL hT
      have HT : Hid (tot = 1 + maxTo (fun i => (K i).depth) n) := Lib.hid hT
      clear hk hT
      go_enter Tryd.func12, Tryd.ntmps12
      go_wp2_with fail
      refine (HL.out _).mono ?_; rintro en w' ⟨rfl, rfl⟩
      go_wp2_with fail
      generalize hW : w.alloc _ = W at *
      go_loopw [3, 14] (fun m i wr => ∃ j : Nat, j ≤ n ∧ i = .int .i64 j ∧ m = .int .i64 ((1 + maxTo (fun i => (K i).depth) j : Nat) : Int) ∧ Below W.heap.size W wr) (fun _ i _ => n - (intOf i).toNat)
      case atStart => exact ⟨0, by omega, rfl, rfl, Below.refl _ _⟩
      case round =>
        obtain ⟨j, hj, rfl, rfl, hb⟩ := hrel
        by_cases hlt : j < n
        · obtain ⟨b2, o2, rfl, hbs, hat, hls, hS2⟩ := kid_facts HS.out HW.out hb Hadr.out Hk.out hlt
          have hjn : j < c := by omega
          have hcs := HD.out (j + 1) (by omega)
          rw [maxTo_succ] at hcs
          have hcall := fun W2 (h2 : Below wr.heap.size wr W2) => Hih.out j S W2 (fun b hb => Nat.lt_of_lt_of_le (hS2 b hb) h2.size) (hls.below h2 hS2) (HN.out j hlt)
          have Hb := Lib.hid hb
          have Hss := Lib.hid (maxTo_succ (fun i => (K i).depth) j)
          generalize hK : K j = x at *
          cases x with
          | no => exact hat.elim
          | mk k2 t2 z2 r2 f2 a2 c2 n2 K2 =>
            obtain ⟨x0, x1, x2, x3, x4, x5⟩ := hat
            generalize hq : (Val.mk k2 t2 z2 r2 f2 a2 c2 n2 K2).depth = q at *
            generalize hp : maxTo (fun i => (K i).depth) j = p at *
            have Hcall : Hid (∀ W2, Below wr.heap.size wr W2 → Calls _ _ #[.agg #[.int .i64 k2, .string t2, .int .i64 z2, .float .f64 r2, .bool f2, .slice a2 n2 c2]] _ _) := Lib.hid hcall
            have HK := Lib.hid hK
            have Hq := Lib.hid hq
            have Hp := Lib.hid hp
            have hq1 : q ≤ 65536 := by omega
            have hp1 : p ≤ 65536 := by omega
            clear hb hK hcall hls hS2 hq hp
            go_wp2_with fail
            refine (Hcall.out _ ((Below.refl _ _).alloc (Nat.le_refl _) _)).mono ?_; rintro en w3 ⟨rfl, hb3⟩
            have hb4 := bstep Hb.out (bstep ((Below.refl _ _).alloc (Nat.le_refl _) _) hb3)
            have Hb4 := Lib.hid hb4
            clear hb3 hb4
            by_cases hgt : p < q
            · go_wp2_with fail
              go_roundw
              case rel => exact ⟨j + 1, by omega, by go_num, by rw [Hss.out, Nat.max_eq_right (by omega)]; go_num, Hb4.out⟩
              case measure => simp [intOf]; omega
            · go_wp2_with fail
              go_roundw
              case rel => exact ⟨j + 1, by omega, by go_num, by rw [Hss.out, Nat.max_eq_left (by omega)]; go_num, Hb4.out⟩
              case measure => simp [intOf]; omega
        · obtain rfl : j = n := by omega
          have Hb := Lib.hid hb
          clear hb
          go_wp2_with fail
          go_ret
          exact ⟨ret_i64 (by have := HT.out; omega), bstep HW.out Hb.out⟩
end Go.Proofs.YtiigfcggdjcmfaaDoor
