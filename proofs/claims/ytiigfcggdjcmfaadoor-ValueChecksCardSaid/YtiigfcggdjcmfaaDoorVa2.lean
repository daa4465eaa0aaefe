/- Package value's countOf and depthOf, at every value that lies in memory: how many, how deep. Conditions: no deeper than the room, and a count that fits. -/
import Derived.Test.YtiigfcggdjcmfaaDoorVa1
namespace Go.Proofs.YtiigfcggdjcmfaaDoor
open Go.ChangeShapes Go.WideShapes Go.ChangeAt Go.RowKit

theorem maxTo_mono {g h : Nat → Nat} {n : Nat} (H : ∀ i, i < n → g i ≤ h i) : maxTo g n ≤ maxTo h n := by
  induction n with
  | zero => exact Nat.le_refl _
  | succ n ih =>
    rw [maxTo_succ, maxTo_succ]
    have := ih fun i hi => H i (by omega)
    have := H n (by omega)
    omega
theorem depth_le_nest (v : Val) : v.depth ≤ v.nest := by
  induction v with
  | no => exact Nat.le_refl _
  | mk k t z r f a c n K ih =>
    have := maxTo_mono (n := n) fun i _ => ih i
    unfold Val.depth Val.nest
    split <;> omega
theorem ret_tup {a b : Int} {x : Bool} (h : a = b) : Ending.returned (.tuple #[.int .i64 a, .bool x]) = .returned (.tuple #[.int .i64 b, .bool x]) := by rw [h]

set_option maxHeartbeats 1000000 in
theorem countOf_calls : ∀ (v : Val) (S : Nat → Prop) (w : World) (b o room : Nat), Lies S w v → At w b o v → v.nest ≤ room → room ≤ 65536 → v.count ≤ 1099511627776 →
    Calls Tryd.prog 29 #[.pointer (some ⟨b, o, none⟩), .int .i64 room] w fun e w' => e = .returned (.tuple #[.int .i64 v.count, .bool true]) ∧ w = w' := by
  intro v
  induction v with
  | no => exact fun _ _ _ _ _ hl => hl.elim
  | mk k t z r f a c n K ih =>
    intro S w b o room hl ha hn hr hc
    obtain ⟨⟨-, -, -, -, -, -, hnc, hcm, hnm⟩, hadr, hkids⟩ := hl
    obtain ⟨-, -, -, -, -, h5⟩ := ha
    have hroom : ((room : Int) == 0) = false := by
      unfold Val.nest at hn
      rw [beq_eq_false_iff_ne]; omega
    have hroom1 : (1 : Int) ≤ room := by unfold Val.nest at hn; omega
    have hN : ∀ i, i < n → (K i).nest ≤ room - 1 := fun i hi => by
      unfold Val.nest at hn
      have := maxTo_le (g := fun i => (K i).nest) hi
      omega
    have hC : ∀ i, i ≤ n → 1 + sumTo (fun i => (K i).count) i ≤ 1099511627776 := fun i hi => by
      unfold Val.count at hc
      have := sumTo_up (g := fun i => (K i).count) hi
      omega
    have HN := Lib.hid hN
    have HC := Lib.hid hC
    have Hadr := Lib.hid hadr
    have Hk := Lib.hid hkids
    have Hih := Lib.hid ih
    have HCt : Hid (Val.count (.mk k t z r f a c n K) = 1 + sumTo (fun i => (K i).count) n) := Lib.hid rfl
    clear hadr hkids ih hn hc hN hC
    generalize Val.count (.mk k t z r f a c n K) = tot at *
    go_enter Tryd.func29, Tryd.ntmps29
    go_wp2_with fail
    go_loop [6, 17] (fun s i => ∃ j : Nat, j ≤ n ∧ i = .int .i64 j ∧ s = .int .i64 ((1 + sumTo (fun i => (K i).count) j : Nat) : Int)) (fun _ i => n - (intOf i).toNat)
    case atStart => exact ⟨0, by omega, rfl, rfl⟩
    case round =>
      obtain ⟨j, hj, rfl, rfl⟩ := hrel
      by_cases hlt : j < n
      · obtain ⟨b2, o2, rfl, hb2⟩ := Hadr.out (by omega)
        have hjn : j < c := by omega
        obtain ⟨hat, hls⟩ := Hk.out j hlt
        have hcs := HC.out (j + 1) (by omega)
        rw [sumTo_succ] at hcs
        have hcall := Hih.out j S w b2 (o2 + j * 6) (room - 1) hls (hat b2 o2 rfl) (HN.out j hlt) (by omega) (by omega)
        rw [show ((room - 1 : Nat) : Int) = (room : Int) - 1 by omega] at hcall
        have Hcall := Lib.hid hcall
        clear hcall hat hls
        have hb1 : (1 : Int) ≤ 1 + (sumTo (fun i => (K i).count) j : Nat) := by omega
        go_wp2_with fail
        refine Hcall.out.mono ?_; rintro en w' ⟨rfl, rfl⟩
        go_wp2_with fail
        go_round
        case rel => exact ⟨j + 1, by omega, by go_num, by rw [sumTo_succ]; go_num⟩
        case measure => simp [intOf]; omega
      · obtain rfl : j = n := by omega
        go_wp2_with fail
        go_ret2
        exact ⟨ret_tup (by have := HCt.out; omega), rfl⟩

set_option maxHeartbeats 1000000 in
theorem depthOf_calls : ∀ (v : Val) (S : Nat → Prop) (w : World) (b o room : Nat), Lies S w v → At w b o v → v.nest ≤ room → room ≤ 65536 →
    Calls Tryd.prog 27 #[.pointer (some ⟨b, o, none⟩), .int .i64 room] w fun e w' => e = .returned (.tuple #[.int .i64 v.depth, .bool true]) ∧ w = w' := by
  intro v
  induction v with
  | no => exact fun _ _ _ _ _ hl => hl.elim
  | mk k t z r f a c n K ih =>
    intro S w b o room hl ha hn hr
    obtain ⟨⟨hk1, hk2, -, -, -, -, hnc, hcm, hnm⟩, hadr, hkids⟩ := hl
    obtain ⟨h0, -, -, -, -, h5⟩ := ha
    have hroom : ((room : Int) == 0) = false := by
      unfold Val.nest at hn
      rw [beq_eq_false_iff_ne]; omega
    have hroom1 : (1 : Int) ≤ room := by unfold Val.nest at hn; omega
    have hN : ∀ i, i < n → (K i).nest ≤ room - 1 := fun i hi => by
      unfold Val.nest at hn
      have := maxTo_le (g := fun i => (K i).nest) hi
      omega
    have hD : ∀ i, i ≤ n → maxTo (fun i => (K i).depth) i ≤ 65536 := fun i hi => by
      have h1 := maxTo_mono (n := i) fun j _ => depth_le_nest (K j)
      have h2 := maxTo_up (g := fun i => (K i).nest) hi
      unfold Val.nest at hn
      omega
    have HN := Lib.hid hN
    have HD := Lib.hid hD
    have Hadr := Lib.hid hadr
    have Hk := Lib.hid hkids
    have Hih := Lib.hid ih
    have hT : Val.depth (.mk k t z r f a c n K) = if lists k then 1 + maxTo (fun i => (K i).depth) n else 0 := rfl
    have HL := Lib.hid (hasList_calls k)
    clear hadr hkids ih hn hN hD
    generalize Val.depth (.mk k t z r f a c n K) = tot at *
    by_cases hk : lists k = true
    · rw [hk] at HL hT
      have HT : Hid (tot = 1 + maxTo (fun i => (K i).depth) n) := Lib.hid hT
      clear hk hT
      go_enter Tryd.func27, Tryd.ntmps27
      go_wp2_with fail
      refine (HL.out _).mono ?_; rintro en w' ⟨rfl, rfl⟩
      go_wp2_with fail
      go_loop [6, 23] (fun s i => ∃ j : Nat, j ≤ n ∧ i = .int .i64 j ∧ s = .int .i64 (maxTo (fun i => (K i).depth) j : Nat)) (fun _ i => n - (intOf i).toNat)
      case atStart => exact ⟨0, by omega, rfl, rfl⟩
      case round =>
        obtain ⟨j, hj, rfl, rfl⟩ := hrel
        by_cases hlt : j < n
        · obtain ⟨b2, o2, rfl, hb2⟩ := Hadr.out (by omega)
          have hjn : j < c := by omega
          obtain ⟨hat, hls⟩ := Hk.out j hlt
          have hcall := Hih.out j S w b2 (o2 + j * 6) (room - 1) hls (hat b2 o2 rfl) (HN.out j hlt) (by omega)
          rw [show ((room - 1 : Nat) : Int) = (room : Int) - 1 by omega] at hcall
          have Hcall := Lib.hid hcall
          clear hcall hat hls
          go_wp2_with fail
          refine Hcall.out.mono ?_; rintro en w' ⟨rfl, rfl⟩
          go_wp2_with fail
          go_round
          case rel => exact ⟨j + 1, by omega, by go_num, by rw [maxTo_succ]; go_num⟩
          case measure => simp [intOf]; omega
        · obtain rfl : j = n := by omega
          have hcs := HD.out j (by omega)
          go_wp2_with fail
          go_ret2
          exact ⟨ret_tup (by have := HT.out; omega), rfl⟩
    · have hk : lists k = false := by simpa using hk
      rw [hk] at HL hT
      have HT : Hid (tot = 0) := Lib.hid hT
      clear hk hT
      go_enter Tryd.func27, Tryd.ntmps27
      go_wp2_with fail
      refine (HL.out _).mono ?_; rintro en w' ⟨rfl, rfl⟩
      go_wp2_with fail
      go_ret2
      exact ⟨ret_tup (by have := HT.out; omega), rfl⟩
end Go.Proofs.YtiigfcggdjcmfaaDoor
