/- readFloat at digits with or without a point, no power of ten. Conditions: none. -/
import Derived.Test.YtnibfebfgdhfgaaGreatDoorRg0
namespace Go.Proofs.YtnibfebfgdhfgaaGreatDoor
open Go.ChangeShapes Go.WideShapes Go.ChangeAt Go.RowKit Go.Sort
open Rf

set_option maxHeartbeats 4000000 in
set_option maxRecDepth 100000 in
theorem rf_end1_short (s : ByteArray) (k : Nat) (hk : s.size = k) (hlt : 1 < k) (h64 : k ≤ 64) (g0 : 1 < s.size) (_g48 : 48 ≤ s[1].toNat) (_g57 : s[1].toNat ≤ 57) (h45 : ∀ _ : 0 < s.size, (s[0].toNat : Int) = 45) (hx : k ≤ 3) (hm : Mant s 1 k) (w : World) :
    Calls Tryz.prog 72 #[.string s] w fun e w' => e = .returned (.tuple #[.int .u64 (rsTo s 1 k).m, .int .i64 ((rsTo s 1 k).ex 0), .bool true, .bool (rsTo s 1 k).tr, .bool false, .int .i64 k, .bool true]) ∧ w = w' := by
  have hne : ¬ s = ByteArray.empty := by intro h; rw [h] at hk; simp at hk; omega
  have hne2 : decide (s = ByteArray.empty) = false := by simp [hne]
  have hfine := fun j (a : 1 ≤ j) (b : j ≤ k) => mant_fine hm j a b
  have hdig := mant_dig hm hlt k hlt (Nat.le_refl _)
  have hks : (s.size : Int) = (k : Int) := by omega
  have hks1 : s.size ≤ k := by omega
  have hks2 : k ≤ s.size := by omega
  have h45a := h45 (Nat.lt_trans Nat.zero_lt_one g0)
  have b43 : ((s[1].toNat : Int) == 43) = false := by rw [beq_eq_false_iff_ne]; omega
  have b45 : ((s[1].toNat : Int) == 45) = false := by rw [beq_eq_false_iff_ne]; omega
  have Hks := Lib.hid hks
  have Hm := Lib.hid hm
  have Hfine := Lib.hid hfine
  have Hdig := Lib.hid hdig
  have HL := Lib.hid (fun c w => lower_calls c w)
  clear hk hks hm hfine hdig h45
  go_enter Tryz.func72, Tryz.ntmps72
  go_wp2_with fail
  go_step3
  go_wp2_with fail
  go_step3
  go_wp2_with fail
  go_loop [2, 5, 7, 9, 13, 14, 15, 16, 17] (fun v t i u p q n nm dp => RSlots s 1 k v t i u p q n nm dp) (fun _ _ i _ _ _ _ _ _ => k - (intOf i).toNat)
  case atStart => exact ⟨1, 0, 0, 0, 0, false, false, false, by omega, by omega, rsTo_self s 1, rfl, rfl, rfl, rfl, rfl, rfl, rfl, rfl, rfl⟩
  case round =>
    obtain ⟨j, M, nd, m, d, dot, dig, tr, hj0, hj1, ht, rfl, rfl, rfl, rfl, rfl, rfl, rfl, rfl, rfl⟩ := hrel
    have hF := Hfine.out j hj0 hj1
    have hB := fine_bounds hF
    obtain ⟨-, f2, f3, f4, f5, f6⟩ := hF
    rw [ht] at hB f2 f3 f4 f5 f6
    simp only [] at hB f2 f3 f4 f5 f6
    obtain ⟨hB1, hB2⟩ := hB
    have f7 : m ≤ 64 := by omega
    have f8 : nd ≤ 64 := by omega
    have f9 : -64 ≤ d := by omega
    have f10 : d ≤ 64 := by omega
    clear f4 f5 f6
    by_cases hj : j < k
    · obtain ⟨hjs, hc⟩ := Hm.out j hj0 hj
      have hS := rsTo_succ s 1 j hj0 hjs
      rcases hc with ⟨c46, cdot, -⟩ | ⟨c1, c2⟩
      · rw [ht] at cdot
        simp only [] at cdot
        subst cdot
        have HS := Lib.hid (hS.trans (stepDot ht c46))
        have Ht := Lib.hid ht
        have b95 : ((s[j].toNat : Int) == 95) = false := by rw [beq_eq_false_iff_ne]; omega
        have b46 : ((s[j].toNat : Int) == 46) = true := by rw [beq_iff_eq]; omega
        clear hS ht hB2 c46
        go_wp2_with fail
        exact ⟨⟨j + 1, M, nd, m, nd, true, dig, tr, by omega, by omega, HS.out, rfl, rfl, by go_num, rfl, rfl, rfl, rfl, rfl, rfl⟩, by simp [intOf]; omega⟩
      · have b95 : ((s[j].toNat : Int) == 95) = false := by rw [beq_eq_false_iff_ne]; omega
        have b46 : ((s[j].toNat : Int) == 46) = false := by rw [beq_eq_false_iff_ne]; omega
        have n46 : s[j].toNat ≠ 46 := by omega
        by_cases h80 : s[j].toNat = 48 ∧ nd = 0
        · have HS := Lib.hid (hS.trans (stepNil ht h80.1 h80.2))
          have b48 : ((s[j].toNat : Int) == 48) = true := by rw [beq_iff_eq]; omega
          have b0 : ((nd : Int) == 0) = true := by rw [beq_iff_eq]; omega
          clear hS ht hB2 h80 n46
          go_wp2_with fail
          exact ⟨⟨j + 1, M, nd, m, d - 1, dot, true, tr, by omega, by omega, HS.out, rfl, rfl, by go_num, rfl, rfl, rfl, rfl, rfl, rfl⟩, by simp [intOf]; omega⟩
        · have hcase : ((s[j].toNat : Int) == 48) = false ∨ (((s[j].toNat : Int) == 48) = true ∧ ((nd : Int) == 0) = false) := by
            by_cases h8 : s[j].toNat = 48
            · right
              have : nd ≠ 0 := fun q => h80 ⟨h8, q⟩
              exact ⟨by rw [h8]; rfl, by rw [beq_eq_false_iff_ne]; omega⟩
            · left; rw [beq_eq_false_iff_ne]; omega
          by_cases hm19 : m < 19
          · have hB3 := hB2 hm19
            have HS := Lib.hid (hS.trans (stepKeep ht n46 h80 hm19))
            have hS2 : ((M * 10 + (s[j].toNat - 48) : Nat) : Int) = (M : Int) * 10 + ((s[j].toNat : Int) - 48) := by omega
            have HS2 := Lib.hid hS2
            have Hcase := Lib.hid hcase
            clear hS ht hB2 h80 n46 hS2 hcase
            rcases Hcase.out with hc8 | ⟨hc8, hc9⟩
            all_goals
              go_wp2_with fail
              exact ⟨⟨j + 1, M * 10 + (s[j].toNat - 48), nd + 1, m + 1, d, dot, true, tr, by omega, by omega, HS.out, by rw [HS2.out], rfl, by go_num, rfl, rfl, rfl, by go_num, by go_num, rfl⟩, by simp [intOf]; omega⟩
          · by_cases h8 : s[j].toNat = 48
            · have HS := Lib.hid (hS.trans (stepZero ht n46 h80 (by omega) h8))
              have b48 : ((s[j].toNat : Int) == 48) = true := by rw [beq_iff_eq]; omega
              have b48n : ((s[j].toNat : Int) != 48) = false := by rw [bne_eq_false_iff_eq]; omega
              have b0 : ((nd : Int) == 0) = false := by rw [beq_eq_false_iff_ne]; omega
              clear hS ht hB2 h80 n46 hcase h8
              go_wp2_with fail
              exact ⟨⟨j + 1, M, nd + 1, m, d, dot, true, tr, by omega, by omega, HS.out, rfl, rfl, by go_num, rfl, rfl, rfl, by go_num, rfl, rfl⟩, by simp [intOf]; omega⟩
            · have HS := Lib.hid (hS.trans (stepCut ht n46 h80 (by omega) h8))
              have b48 : ((s[j].toNat : Int) == 48) = false := by rw [beq_eq_false_iff_ne]; omega
              have b48n : ((s[j].toNat : Int) != 48) = true := by rw [bne_iff_ne]; omega
              clear hS ht hB2 h80 n46 hcase h8
              go_wp2_with fail
              exact ⟨⟨j + 1, M, nd + 1, m, d, dot, true, true, by omega, by omega, HS.out, rfl, rfl, by go_num, rfl, rfl, rfl, by go_num, rfl, rfl⟩, by simp [intOf]; omega⟩
    · obtain rfl : j = k := by omega
      have hd := Hdig.out
      rw [ht] at hd
      simp only [] at hd
      subst hd
      have Ht := Lib.hid ht
      clear ht hB2
      by_cases hM : M = 0
      · have hM0 : ((M : Int) != 0) = false := by rw [bne_eq_false_iff_eq]; omega
        have HM := Lib.hid hM
        clear hM
        cases dot
        all_goals
          go_wp2_with fail
          exact bodyPost_ret (v := .tuple #[.int .u64 M, .int .i64 0, .bool true, .bool tr, .bool false, .int .i64 j, .bool true]) (by simp [results, Tryz.results72, go_sem]) rfl ⟨by rw [Ht.out, RS.ex, if_pos HM.out], rfl⟩
      · have hM0 : ((M : Int) != 0) = true := by rw [bne_iff_ne]; omega
        have HM := Lib.hid hM
        clear hM
        cases dot
        · go_wp2_with fail
          exact bodyPost_ret (v := .tuple #[.int .u64 M, .int .i64 ((nd : Int) - m), .bool true, .bool tr, .bool false, .int .i64 j, .bool true]) (by simp [results, Tryz.results72, go_sem]) rfl ⟨by rw [Ht.out, RS.ex, if_neg HM.out, if_neg Bool.false_ne_true, Int.add_zero], rfl⟩
        · go_wp2_with fail
          exact bodyPost_ret (v := .tuple #[.int .u64 M, .int .i64 (d - m), .bool true, .bool tr, .bool false, .int .i64 j, .bool true]) (by simp [results, Tryz.results72, go_sem]) rfl ⟨by rw [Ht.out, RS.ex, if_neg HM.out, if_pos rfl, Int.add_zero], rfl⟩

set_option maxHeartbeats 4000000 in
set_option maxRecDepth 100000 in
theorem rf_end1_plain (s : ByteArray) (k : Nat) (hk : s.size = k) (hlt : 1 < k) (h64 : k ≤ 64) (g0 : 1 < s.size) (_g48 : 48 ≤ s[1].toNat) (_g57 : s[1].toNat ≤ 57) (h45 : ∀ _ : 0 < s.size, (s[0].toNat : Int) = 45) (hx : 3 < k) (h48 : 49 ≤ s[1].toNat) (hm : Mant s 1 k) (w : World) :
    Calls Tryz.prog 72 #[.string s] w fun e w' => e = .returned (.tuple #[.int .u64 (rsTo s 1 k).m, .int .i64 ((rsTo s 1 k).ex 0), .bool true, .bool (rsTo s 1 k).tr, .bool false, .int .i64 k, .bool true]) ∧ w = w' := by
  have hne : ¬ s = ByteArray.empty := by intro h; rw [h] at hk; simp at hk; omega
  have hne2 : decide (s = ByteArray.empty) = false := by simp [hne]
  have hfine := fun j (a : 1 ≤ j) (b : j ≤ k) => mant_fine hm j a b
  have hdig := mant_dig hm hlt k hlt (Nat.le_refl _)
  have hks : (s.size : Int) = (k : Int) := by omega
  have hks1 : s.size ≤ k := by omega
  have hks2 : k ≤ s.size := by omega
  have h45a := h45 (Nat.lt_trans Nat.zero_lt_one g0)
  have b43 : ((s[1].toNat : Int) == 43) = false := by rw [beq_eq_false_iff_ne]; omega
  have b45 : ((s[1].toNat : Int) == 45) = false := by rw [beq_eq_false_iff_ne]; omega
  have b48 : ((s[1].toNat : Int) == 48) = false := by rw [beq_eq_false_iff_ne]; omega
  have Hks := Lib.hid hks
  have Hm := Lib.hid hm
  have Hfine := Lib.hid hfine
  have Hdig := Lib.hid hdig
  have HL := Lib.hid (fun c w => lower_calls c w)
  clear hk hks hm hfine hdig h45
  go_enter Tryz.func72, Tryz.ntmps72
  go_wp2_with fail
  go_step3
  go_wp2_with fail
  go_step3
  go_wp2_with fail
  go_loop [2, 5, 7, 9, 13, 14, 15, 16, 17] (fun v t i u p q n nm dp => RSlots s 1 k v t i u p q n nm dp) (fun _ _ i _ _ _ _ _ _ => k - (intOf i).toNat)
  case atStart => exact ⟨1, 0, 0, 0, 0, false, false, false, by omega, by omega, rsTo_self s 1, rfl, rfl, rfl, rfl, rfl, rfl, rfl, rfl, rfl⟩
  case round =>
    obtain ⟨j, M, nd, m, d, dot, dig, tr, hj0, hj1, ht, rfl, rfl, rfl, rfl, rfl, rfl, rfl, rfl, rfl⟩ := hrel
    have hF := Hfine.out j hj0 hj1
    have hB := fine_bounds hF
    obtain ⟨-, f2, f3, f4, f5, f6⟩ := hF
    rw [ht] at hB f2 f3 f4 f5 f6
    simp only [] at hB f2 f3 f4 f5 f6
    obtain ⟨hB1, hB2⟩ := hB
    have f7 : m ≤ 64 := by omega
    have f8 : nd ≤ 64 := by omega
    have f9 : -64 ≤ d := by omega
    have f10 : d ≤ 64 := by omega
    clear f4 f5 f6
    by_cases hj : j < k
    · obtain ⟨hjs, hc⟩ := Hm.out j hj0 hj
      have hS := rsTo_succ s 1 j hj0 hjs
      rcases hc with ⟨c46, cdot, -⟩ | ⟨c1, c2⟩
      · rw [ht] at cdot
        simp only [] at cdot
        subst cdot
        have HS := Lib.hid (hS.trans (stepDot ht c46))
        have Ht := Lib.hid ht
        have b95 : ((s[j].toNat : Int) == 95) = false := by rw [beq_eq_false_iff_ne]; omega
        have b46 : ((s[j].toNat : Int) == 46) = true := by rw [beq_iff_eq]; omega
        clear hS ht hB2 c46
        go_wp2_with fail
        exact ⟨⟨j + 1, M, nd, m, nd, true, dig, tr, by omega, by omega, HS.out, rfl, rfl, by go_num, rfl, rfl, rfl, rfl, rfl, rfl⟩, by simp [intOf]; omega⟩
      · have b95 : ((s[j].toNat : Int) == 95) = false := by rw [beq_eq_false_iff_ne]; omega
        have b46 : ((s[j].toNat : Int) == 46) = false := by rw [beq_eq_false_iff_ne]; omega
        have n46 : s[j].toNat ≠ 46 := by omega
        by_cases h80 : s[j].toNat = 48 ∧ nd = 0
        · have HS := Lib.hid (hS.trans (stepNil ht h80.1 h80.2))
          have b48 : ((s[j].toNat : Int) == 48) = true := by rw [beq_iff_eq]; omega
          have b0 : ((nd : Int) == 0) = true := by rw [beq_iff_eq]; omega
          clear hS ht hB2 h80 n46
          go_wp2_with fail
          exact ⟨⟨j + 1, M, nd, m, d - 1, dot, true, tr, by omega, by omega, HS.out, rfl, rfl, by go_num, rfl, rfl, rfl, rfl, rfl, rfl⟩, by simp [intOf]; omega⟩
        · have hcase : ((s[j].toNat : Int) == 48) = false ∨ (((s[j].toNat : Int) == 48) = true ∧ ((nd : Int) == 0) = false) := by
            by_cases h8 : s[j].toNat = 48
            · right
              have : nd ≠ 0 := fun q => h80 ⟨h8, q⟩
              exact ⟨by rw [h8]; rfl, by rw [beq_eq_false_iff_ne]; omega⟩
            · left; rw [beq_eq_false_iff_ne]; omega
          by_cases hm19 : m < 19
          · have hB3 := hB2 hm19
            have HS := Lib.hid (hS.trans (stepKeep ht n46 h80 hm19))
            have hS2 : ((M * 10 + (s[j].toNat - 48) : Nat) : Int) = (M : Int) * 10 + ((s[j].toNat : Int) - 48) := by omega
            have HS2 := Lib.hid hS2
            have Hcase := Lib.hid hcase
            clear hS ht hB2 h80 n46 hS2 hcase
            rcases Hcase.out with hc8 | ⟨hc8, hc9⟩
            all_goals
              go_wp2_with fail
              exact ⟨⟨j + 1, M * 10 + (s[j].toNat - 48), nd + 1, m + 1, d, dot, true, tr, by omega, by omega, HS.out, by rw [HS2.out], rfl, by go_num, rfl, rfl, rfl, by go_num, by go_num, rfl⟩, by simp [intOf]; omega⟩
          · by_cases h8 : s[j].toNat = 48
            · have HS := Lib.hid (hS.trans (stepZero ht n46 h80 (by omega) h8))
              have b48 : ((s[j].toNat : Int) == 48) = true := by rw [beq_iff_eq]; omega
              have b48n : ((s[j].toNat : Int) != 48) = false := by rw [bne_eq_false_iff_eq]; omega
              have b0 : ((nd : Int) == 0) = false := by rw [beq_eq_false_iff_ne]; omega
              clear hS ht hB2 h80 n46 hcase h8
              go_wp2_with fail
              exact ⟨⟨j + 1, M, nd + 1, m, d, dot, true, tr, by omega, by omega, HS.out, rfl, rfl, by go_num, rfl, rfl, rfl, by go_num, rfl, rfl⟩, by simp [intOf]; omega⟩
            · have HS := Lib.hid (hS.trans (stepCut ht n46 h80 (by omega) h8))
              have b48 : ((s[j].toNat : Int) == 48) = false := by rw [beq_eq_false_iff_ne]; omega
              have b48n : ((s[j].toNat : Int) != 48) = true := by rw [bne_iff_ne]; omega
              clear hS ht hB2 h80 n46 hcase h8
              go_wp2_with fail
              exact ⟨⟨j + 1, M, nd + 1, m, d, dot, true, true, by omega, by omega, HS.out, rfl, rfl, by go_num, rfl, rfl, rfl, by go_num, rfl, rfl⟩, by simp [intOf]; omega⟩
    · obtain rfl : j = k := by omega
      have hd := Hdig.out
      rw [ht] at hd
      simp only [] at hd
      subst hd
      have Ht := Lib.hid ht
      clear ht hB2
      by_cases hM : M = 0
      · have hM0 : ((M : Int) != 0) = false := by rw [bne_eq_false_iff_eq]; omega
        have HM := Lib.hid hM
        clear hM
        cases dot
        all_goals
          go_wp2_with fail
          exact bodyPost_ret (v := .tuple #[.int .u64 M, .int .i64 0, .bool true, .bool tr, .bool false, .int .i64 j, .bool true]) (by simp [results, Tryz.results72, go_sem]) rfl ⟨by rw [Ht.out, RS.ex, if_pos HM.out], rfl⟩
      · have hM0 : ((M : Int) != 0) = true := by rw [bne_iff_ne]; omega
        have HM := Lib.hid hM
        clear hM
        cases dot
        · go_wp2_with fail
          exact bodyPost_ret (v := .tuple #[.int .u64 M, .int .i64 ((nd : Int) - m), .bool true, .bool tr, .bool false, .int .i64 j, .bool true]) (by simp [results, Tryz.results72, go_sem]) rfl ⟨by rw [Ht.out, RS.ex, if_neg HM.out, if_neg Bool.false_ne_true, Int.add_zero], rfl⟩
        · go_wp2_with fail
          exact bodyPost_ret (v := .tuple #[.int .u64 M, .int .i64 (d - m), .bool true, .bool tr, .bool false, .int .i64 j, .bool true]) (by simp [results, Tryz.results72, go_sem]) rfl ⟨by rw [Ht.out, RS.ex, if_neg HM.out, if_pos rfl, Int.add_zero], rfl⟩

set_option maxHeartbeats 4000000 in
set_option maxRecDepth 100000 in
theorem rf_end1_nought (s : ByteArray) (k : Nat) (hk : s.size = k) (hlt : 1 < k) (h64 : k ≤ 64) (g0 : 1 < s.size) (_g48 : 48 ≤ s[1].toNat) (_g57 : s[1].toNat ≤ 57) (h45 : ∀ _ : 0 < s.size, (s[0].toNat : Int) = 45) (hx : 3 < k) (h48 : s[1].toNat = 48) (g1 : 2 < s.size) (hor : bits .or .u8 (s[2].toNat : Int) 32 = (s[2].toNat : Int)) (h120 : s[2].toNat ≤ 101) (hm : Mant s 1 k) (w : World) :
    Calls Tryz.prog 72 #[.string s] w fun e w' => e = .returned (.tuple #[.int .u64 (rsTo s 1 k).m, .int .i64 ((rsTo s 1 k).ex 0), .bool true, .bool (rsTo s 1 k).tr, .bool false, .int .i64 k, .bool true]) ∧ w = w' := by
  have hne : ¬ s = ByteArray.empty := by intro h; rw [h] at hk; simp at hk; omega
  have hne2 : decide (s = ByteArray.empty) = false := by simp [hne]
  have hfine := fun j (a : 1 ≤ j) (b : j ≤ k) => mant_fine hm j a b
  have hdig := mant_dig hm hlt k hlt (Nat.le_refl _)
  have hks : (s.size : Int) = (k : Int) := by omega
  have hks1 : s.size ≤ k := by omega
  have hks2 : k ≤ s.size := by omega
  have h45a := h45 (Nat.lt_trans Nat.zero_lt_one g0)
  have b43 : ((s[1].toNat : Int) == 43) = false := by rw [beq_eq_false_iff_ne]; omega
  have b45 : ((s[1].toNat : Int) == 45) = false := by rw [beq_eq_false_iff_ne]; omega
  have b48 : ((s[1].toNat : Int) == 48) = true := by rw [beq_iff_eq]; omega
  have b120 : ((s[2].toNat : Int) == 120) = false := by rw [beq_eq_false_iff_ne]; omega
  have Hks := Lib.hid hks
  have Hm := Lib.hid hm
  have Hfine := Lib.hid hfine
  have Hdig := Lib.hid hdig
  have HL := Lib.hid (fun c w => lower_calls c w)
  clear hk hks hm hfine hdig h45 h48
  go_enter Tryz.func72, Tryz.ntmps72
  go_wp2_with fail
  go_step3
  go_wp2_with fail
  refine (HL.out _ _).mono ?_; rintro en w' ⟨rfl, rfl⟩
  go_wp2_with fail
  go_step3
  go_wp2_with fail
  go_loop [2, 5, 7, 9, 13, 14, 15, 16, 17] (fun v t i u p q n nm dp => RSlots s 1 k v t i u p q n nm dp) (fun _ _ i _ _ _ _ _ _ => k - (intOf i).toNat)
  case atStart => exact ⟨1, 0, 0, 0, 0, false, false, false, by omega, by omega, rsTo_self s 1, rfl, rfl, rfl, rfl, rfl, rfl, rfl, rfl, rfl⟩
  case round =>
    obtain ⟨j, M, nd, m, d, dot, dig, tr, hj0, hj1, ht, rfl, rfl, rfl, rfl, rfl, rfl, rfl, rfl, rfl⟩ := hrel
    have hF := Hfine.out j hj0 hj1
    have hB := fine_bounds hF
    obtain ⟨-, f2, f3, f4, f5, f6⟩ := hF
    rw [ht] at hB f2 f3 f4 f5 f6
    simp only [] at hB f2 f3 f4 f5 f6
    obtain ⟨hB1, hB2⟩ := hB
    have f7 : m ≤ 64 := by omega
    have f8 : nd ≤ 64 := by omega
    have f9 : -64 ≤ d := by omega
    have f10 : d ≤ 64 := by omega
    clear f4 f5 f6
    by_cases hj : j < k
    · obtain ⟨hjs, hc⟩ := Hm.out j hj0 hj
      have hS := rsTo_succ s 1 j hj0 hjs
      rcases hc with ⟨c46, cdot, -⟩ | ⟨c1, c2⟩
      · rw [ht] at cdot
        simp only [] at cdot
        subst cdot
        have HS := Lib.hid (hS.trans (stepDot ht c46))
        have Ht := Lib.hid ht
        have b95 : ((s[j].toNat : Int) == 95) = false := by rw [beq_eq_false_iff_ne]; omega
        have b46 : ((s[j].toNat : Int) == 46) = true := by rw [beq_iff_eq]; omega
        clear hS ht hB2 c46
        go_wp2_with fail
        exact ⟨⟨j + 1, M, nd, m, nd, true, dig, tr, by omega, by omega, HS.out, rfl, rfl, by go_num, rfl, rfl, rfl, rfl, rfl, rfl⟩, by simp [intOf]; omega⟩
      · have b95 : ((s[j].toNat : Int) == 95) = false := by rw [beq_eq_false_iff_ne]; omega
        have b46 : ((s[j].toNat : Int) == 46) = false := by rw [beq_eq_false_iff_ne]; omega
        have n46 : s[j].toNat ≠ 46 := by omega
        by_cases h80 : s[j].toNat = 48 ∧ nd = 0
        · have HS := Lib.hid (hS.trans (stepNil ht h80.1 h80.2))
          have b48 : ((s[j].toNat : Int) == 48) = true := by rw [beq_iff_eq]; omega
          have b0 : ((nd : Int) == 0) = true := by rw [beq_iff_eq]; omega
          clear hS ht hB2 h80 n46
          go_wp2_with fail
          exact ⟨⟨j + 1, M, nd, m, d - 1, dot, true, tr, by omega, by omega, HS.out, rfl, rfl, by go_num, rfl, rfl, rfl, rfl, rfl, rfl⟩, by simp [intOf]; omega⟩
        · have hcase : ((s[j].toNat : Int) == 48) = false ∨ (((s[j].toNat : Int) == 48) = true ∧ ((nd : Int) == 0) = false) := by
            by_cases h8 : s[j].toNat = 48
            · right
              have : nd ≠ 0 := fun q => h80 ⟨h8, q⟩
              exact ⟨by rw [h8]; rfl, by rw [beq_eq_false_iff_ne]; omega⟩
            · left; rw [beq_eq_false_iff_ne]; omega
          by_cases hm19 : m < 19
          · have hB3 := hB2 hm19
            have HS := Lib.hid (hS.trans (stepKeep ht n46 h80 hm19))
            have hS2 : ((M * 10 + (s[j].toNat - 48) : Nat) : Int) = (M : Int) * 10 + ((s[j].toNat : Int) - 48) := by omega
            have HS2 := Lib.hid hS2
            have Hcase := Lib.hid hcase
            clear hS ht hB2 h80 n46 hS2 hcase
            rcases Hcase.out with hc8 | ⟨hc8, hc9⟩
            all_goals
              go_wp2_with fail
              exact ⟨⟨j + 1, M * 10 + (s[j].toNat - 48), nd + 1, m + 1, d, dot, true, tr, by omega, by omega, HS.out, by rw [HS2.out], rfl, by go_num, rfl, rfl, rfl, by go_num, by go_num, rfl⟩, by simp [intOf]; omega⟩
          · by_cases h8 : s[j].toNat = 48
            · have HS := Lib.hid (hS.trans (stepZero ht n46 h80 (by omega) h8))
              have b48 : ((s[j].toNat : Int) == 48) = true := by rw [beq_iff_eq]; omega
              have b48n : ((s[j].toNat : Int) != 48) = false := by rw [bne_eq_false_iff_eq]; omega
              have b0 : ((nd : Int) == 0) = false := by rw [beq_eq_false_iff_ne]; omega
              clear hS ht hB2 h80 n46 hcase h8
              go_wp2_with fail
              exact ⟨⟨j + 1, M, nd + 1, m, d, dot, true, tr, by omega, by omega, HS.out, rfl, rfl, by go_num, rfl, rfl, rfl, by go_num, rfl, rfl⟩, by simp [intOf]; omega⟩
            · have HS := Lib.hid (hS.trans (stepCut ht n46 h80 (by omega) h8))
              have b48 : ((s[j].toNat : Int) == 48) = false := by rw [beq_eq_false_iff_ne]; omega
              have b48n : ((s[j].toNat : Int) != 48) = true := by rw [bne_iff_ne]; omega
              clear hS ht hB2 h80 n46 hcase h8
              go_wp2_with fail
              exact ⟨⟨j + 1, M, nd + 1, m, d, dot, true, true, by omega, by omega, HS.out, rfl, rfl, by go_num, rfl, rfl, rfl, by go_num, rfl, rfl⟩, by simp [intOf]; omega⟩
    · obtain rfl : j = k := by omega
      have hd := Hdig.out
      rw [ht] at hd
      simp only [] at hd
      subst hd
      have Ht := Lib.hid ht
      clear ht hB2
      by_cases hM : M = 0
      · have hM0 : ((M : Int) != 0) = false := by rw [bne_eq_false_iff_eq]; omega
        have HM := Lib.hid hM
        clear hM
        cases dot
        all_goals
          go_wp2_with fail
          exact bodyPost_ret (v := .tuple #[.int .u64 M, .int .i64 0, .bool true, .bool tr, .bool false, .int .i64 j, .bool true]) (by simp [results, Tryz.results72, go_sem]) rfl ⟨by rw [Ht.out, RS.ex, if_pos HM.out], rfl⟩
      · have hM0 : ((M : Int) != 0) = true := by rw [bne_iff_ne]; omega
        have HM := Lib.hid hM
        clear hM
        cases dot
        · go_wp2_with fail
          exact bodyPost_ret (v := .tuple #[.int .u64 M, .int .i64 ((nd : Int) - m), .bool true, .bool tr, .bool false, .int .i64 j, .bool true]) (by simp [results, Tryz.results72, go_sem]) rfl ⟨by rw [Ht.out, RS.ex, if_neg HM.out, if_neg Bool.false_ne_true, Int.add_zero], rfl⟩
        · go_wp2_with fail
          exact bodyPost_ret (v := .tuple #[.int .u64 M, .int .i64 (d - m), .bool true, .bool tr, .bool false, .int .i64 j, .bool true]) (by simp [results, Tryz.results72, go_sem]) rfl ⟨by rw [Ht.out, RS.ex, if_neg HM.out, if_pos rfl, Int.add_zero], rfl⟩

end Go.Proofs.YtnibfebfgdhfgaaGreatDoor
