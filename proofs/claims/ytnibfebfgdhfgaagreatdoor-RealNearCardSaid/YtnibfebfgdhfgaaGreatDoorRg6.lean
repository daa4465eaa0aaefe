/- readFloat at digits with or without a point, and a power of ten. Conditions: none. -/
import Derived.Test.YtnibfebfgdhfgaaGreatDoorRg0
namespace Go.Proofs.YtnibfebfgdhfgaaGreatDoor
open Go.ChangeShapes Go.WideShapes Go.ChangeAt Go.RowKit Go.Sort
open Rf

set_option maxHeartbeats 4000000 in
set_option maxRecDepth 100000 in
theorem rf_minus1_plain (s : ByteArray) (b k : Nat) (hk : s.size = k) (hlt : 1 < b) (h64 : k ≤ 64) (g0 : 1 < s.size) (_g48 : 48 ≤ s[1].toNat) (_g57 : s[1].toNat ≤ 57) (h45 : ∀ _ : 0 < s.size, (s[0].toNat : Int) = 45) (hx : 3 < k) (h48 : 49 ≤ s[1].toNat) (hm : Mant s 1 b) (hb : b < s.size) (he : (s[b].toNat : Int) = 101) (hb1 : b + 1 < s.size) (hsg : (s[b + 1].toNat : Int) = 45) (hX : b + 1 + 1 < k) (hD : ∀ j, b + 1 + 1 ≤ j → j < k → isDig s j) (w : World) :
    Calls Tryz.prog 72 #[.string s] w fun e w' => e = .returned (.tuple #[.int .u64 (rsTo s 1 b).m, .int .i64 ((rsTo s 1 b).ex (-(exTo s (b + 1 + 1) k : Int))), .bool true, .bool (rsTo s 1 b).tr, .bool false, .int .i64 k, .bool true]) ∧ w = w' := by
  have hne : ¬ s = ByteArray.empty := by intro h; rw [h] at hk; simp at hk; omega
  have hne2 : decide (s = ByteArray.empty) = false := by simp [hne]
  have hfine := fun j (a : 1 ≤ j) (b : j ≤ b) => mant_fine hm j a b
  have hdig := mant_dig hm hlt b hlt (Nat.le_refl _)
  have hks : (s.size : Int) = (k : Int) := by omega
  have hks1 : s.size ≤ k := by omega
  have hks2 : k ≤ s.size := by omega
  have h45a := h45 (Nat.lt_trans Nat.zero_lt_one g0)
  have b43 : ((s[1].toNat : Int) == 43) = false := by rw [beq_eq_false_iff_ne]; omega
  have b45 : ((s[1].toNat : Int) == 45) = false := by rw [beq_eq_false_iff_ne]; omega
  have b48 : ((s[1].toNat : Int) == 48) = false := by rw [beq_eq_false_iff_ne]; omega
  have Hks := Lib.hid hks
  have Hm := Lib.hid hm
  have Hfine := Lib.hid hfine
  have Hdig := Lib.hid hdig
  have HL := Lib.hid (fun c w => lower_calls c w)
  have e95 : ((s[b].toNat : Int) == 95) = false := by rw [he]; rfl
  have e46 : ((s[b].toNat : Int) == 46) = false := by rw [he]; rfl
  have e32 : bits .or .u8 (s[b].toNat : Int) 32 = 101 := by rw [or32' s[b] (.inr (by omega)), he]
  have e57 : ¬ s[b].toNat ≤ 57 := by omega
  have E43 : ((s[b + 1].toNat : Int) == 43) = false := by rw [hsg]; rfl
  have E45 : ((s[b + 1].toNat : Int) == 45) = true := by rw [hsg]; rfl
  obtain ⟨x0, x1, x2⟩ := hD (b + 1 + 1) (Nat.le_refl _) hX
  have HD := Lib.hid hD
  clear hD he hsg
  clear hk hks hm hfine hdig h45
  go_enter Tryz.func72, Tryz.ntmps72
  go_wp2_with fail
  go_step3
  go_wp2_with fail
  go_step3
  go_wp2_with fail
  go_loop [2, 5, 7, 9, 13, 14, 15, 16, 17] (fun v t i u p q n nm dp => RSlots s 1 b v t i u p q n nm dp) (fun _ _ i _ _ _ _ _ _ => b - (intOf i).toNat)
  case atStart => exact ⟨1, 0, 0, 0, 0, false, false, false, by omega, by omega, rsTo_self s 1, rfl, rfl, rfl, rfl, rfl, rfl, rfl, rfl, rfl⟩
  case round =>
    obtain ⟨j, M, nd, m, d, dot, dig, tr, hj0, hj1, ht, rfl, rfl, rfl, rfl, rfl, rfl, rfl, rfl, rfl⟩ := hrel
    have hF := Hfine.out j hj0 hj1
    have hB := fine_bounds hF
    obtain ⟨-, f2, f3, f4, f5, f6⟩ := hF
    rw [ht] at hB f2 f3 f4 f5 f6
    simp only [] at hB f2 f3 f4 f5 f6
    obtain ⟨hB1, hB2⟩ := hB
    have f7 : m ≤ 64 := by omega
    have f8 : nd ≤ 64 := by omega
    have f9 : -64 ≤ d := by omega
    have f10 : d ≤ 64 := by omega
    clear f4 f5 f6
    by_cases hj : j < b
    · obtain ⟨hjs, hc⟩ := Hm.out j hj0 hj
      have hS := rsTo_succ s 1 j hj0 hjs
      rcases hc with ⟨c46, cdot, -⟩ | ⟨c1, c2⟩
      · rw [ht] at cdot
        simp only [] at cdot
        subst cdot
        have HS := Lib.hid (hS.trans (stepDot ht c46))
        have Ht := Lib.hid ht
        have b95 : ((s[j].toNat : Int) == 95) = false := by rw [beq_eq_false_iff_ne]; omega
        have b46 : ((s[j].toNat : Int) == 46) = true := by rw [beq_iff_eq]; omega
        clear hS ht hB2 c46
        go_wp2_with fail
        exact ⟨⟨j + 1, M, nd, m, nd, true, dig, tr, by omega, by omega, HS.out, rfl, rfl, by go_num, rfl, rfl, rfl, rfl, rfl, rfl⟩, by simp [intOf]; omega⟩
      · have b95 : ((s[j].toNat : Int) == 95) = false := by rw [beq_eq_false_iff_ne]; omega
        have b46 : ((s[j].toNat : Int) == 46) = false := by rw [beq_eq_false_iff_ne]; omega
        have n46 : s[j].toNat ≠ 46 := by omega
        by_cases h80 : s[j].toNat = 48 ∧ nd = 0
        · have HS := Lib.hid (hS.trans (stepNil ht h80.1 h80.2))
          have b48 : ((s[j].toNat : Int) == 48) = true := by rw [beq_iff_eq]; omega
          have b0 : ((nd : Int) == 0) = true := by rw [beq_iff_eq]; omega
          clear hS ht hB2 h80 n46
          go_wp2_with fail
          exact ⟨⟨j + 1, M, nd, m, d - 1, dot, true, tr, by omega, by omega, HS.out, rfl, rfl, by go_num, rfl, rfl, rfl, rfl, rfl, rfl⟩, by simp [intOf]; omega⟩
        · have hcase : ((s[j].toNat : Int) == 48) = false ∨ (((s[j].toNat : Int) == 48) = true ∧ ((nd : Int) == 0) = false) := by
            by_cases h8 : s[j].toNat = 48
            · right
              have : nd ≠ 0 := fun q => h80 ⟨h8, q⟩
              exact ⟨by rw [h8]; rfl, by rw [beq_eq_false_iff_ne]; omega⟩
            · left; rw [beq_eq_false_iff_ne]; omega
          by_cases hm19 : m < 19
          · have hB3 := hB2 hm19
            have HS := Lib.hid (hS.trans (stepKeep ht n46 h80 hm19))
            have hS2 : ((M * 10 + (s[j].toNat - 48) : Nat) : Int) = (M : Int) * 10 + ((s[j].toNat : Int) - 48) := by omega
            have HS2 := Lib.hid hS2
            have Hcase := Lib.hid hcase
            clear hS ht hB2 h80 n46 hS2 hcase
            rcases Hcase.out with hc8 | ⟨hc8, hc9⟩
            all_goals
              go_wp2_with fail
              exact ⟨⟨j + 1, M * 10 + (s[j].toNat - 48), nd + 1, m + 1, d, dot, true, tr, by omega, by omega, HS.out, by rw [HS2.out], rfl, by go_num, rfl, rfl, rfl, by go_num, by go_num, rfl⟩, by simp [intOf]; omega⟩
          · by_cases h8 : s[j].toNat = 48
            · have HS := Lib.hid (hS.trans (stepZero ht n46 h80 (by omega) h8))
              have b48 : ((s[j].toNat : Int) == 48) = true := by rw [beq_iff_eq]; omega
              have b48n : ((s[j].toNat : Int) != 48) = false := by rw [bne_eq_false_iff_eq]; omega
              have b0 : ((nd : Int) == 0) = false := by rw [beq_eq_false_iff_ne]; omega
              clear hS ht hB2 h80 n46 hcase h8
              go_wp2_with fail
              exact ⟨⟨j + 1, M, nd + 1, m, d, dot, true, tr, by omega, by omega, HS.out, rfl, rfl, by go_num, rfl, rfl, rfl, by go_num, rfl, rfl⟩, by simp [intOf]; omega⟩
            · have HS := Lib.hid (hS.trans (stepCut ht n46 h80 (by omega) h8))
              have b48 : ((s[j].toNat : Int) == 48) = false := by rw [beq_eq_false_iff_ne]; omega
              have b48n : ((s[j].toNat : Int) != 48) = true := by rw [bne_iff_ne]; omega
              clear hS ht hB2 h80 n46 hcase h8
              go_wp2_with fail
              exact ⟨⟨j + 1, M, nd + 1, m, d, dot, true, true, by omega, by omega, HS.out, rfl, rfl, by go_num, rfl, rfl, rfl, by go_num, rfl, rfl⟩, by simp [intOf]; omega⟩
    · obtain rfl : j = b := by omega
      have hd := Hdig.out
      rw [ht] at hd
      simp only [] at hd
      subst hd
      have Ht := Lib.hid ht
      clear ht hB2
      cases dot
      · go_wp2_with fail
        refine (HL.out _ _).mono ?_; rintro en w' ⟨rfl, rfl⟩
        go_wp2_with fail
        go_loop [7, 9, 20] (fun i u e => ∃ x : Nat, j + 1 + 1 ≤ x ∧ x ≤ k ∧ i = .int .i64 x ∧ u = .bool false ∧ e = .int .i64 (exTo s (j + 1 + 1) x : Nat)) (fun i _ _ => k - (intOf i).toNat)
        case atStart => exact ⟨j + 1 + 1, by omega, by omega, by go_num, rfl, by rw [exTo_self]; rfl⟩
        case round =>
          obtain ⟨x, hx0, hx1, rfl, rfl, rfl⟩ := hrel
          have hl := exTo_lt s (j + 1 + 1) x
          by_cases hxk : x < k
          · obtain ⟨y0, y1, y2⟩ := HD.out x hx0 hxk
            have y95 : ((s[x].toNat : Int) == 95) = false := by rw [beq_eq_false_iff_ne]; omega
            have hE := exTo_succ s (j + 1 + 1) x hx0 y0
            unfold exStep at hE
            by_cases h4 : exTo s (j + 1 + 1) x < 10000
            · rw [if_pos h4] at hE
              have hE2 : ((exTo s (j + 1 + 1) (x + 1) : Nat) : Int) = (exTo s (j + 1 + 1) x : Int) * 10 + (s[x].toNat : Int) - 48 := by omega
              have HE := Lib.hid hE2
              clear hE hE2
              go_wp2_with fail
              exact ⟨⟨x + 1, by omega, by omega, by go_num, rfl, by rw [HE.out]⟩, by simp [intOf]; omega⟩
            · rw [if_neg h4] at hE
              have HE := Lib.hid hE
              clear hE
              go_wp2_with fail
              exact ⟨⟨x + 1, by omega, by omega, by go_num, rfl, by rw [HE.out]⟩, by simp [intOf]; omega⟩
          · obtain rfl : x = k := by omega
            by_cases hM : M = 0
            · have hM0 : ((M : Int) != 0) = false := by rw [bne_eq_false_iff_eq]; omega
              have HM := Lib.hid hM
              clear hM
              go_wp2_with fail
              exact bodyPost_ret (v := .tuple #[.int .u64 M, .int .i64 0, .bool true, .bool tr, .bool false, .int .i64 x, .bool true]) (by simp [results, Tryz.results72, go_sem]) rfl ⟨by rw [Ht.out, RS.ex, if_pos HM.out], rfl⟩
            · have hM0 : ((M : Int) != 0) = true := by rw [bne_iff_ne]; omega
              have HM := Lib.hid hM
              clear hM
              go_wp2_with fail
              exact bodyPost_ret (v := .tuple #[.int .u64 M, .int .i64 ((nd : Int) + -(exTo s (j + 1 + 1) x : Int) - m), .bool true, .bool tr, .bool false, .int .i64 x, .bool true]) (by simp [results, Tryz.results72, go_sem]) rfl ⟨by rw [Ht.out, RS.ex, if_neg HM.out, if_neg Bool.false_ne_true], rfl⟩
      · go_wp2_with fail
        refine (HL.out _ _).mono ?_; rintro en w' ⟨rfl, rfl⟩
        go_wp2_with fail
        go_loop [7, 9, 20] (fun i u e => ∃ x : Nat, j + 1 + 1 ≤ x ∧ x ≤ k ∧ i = .int .i64 x ∧ u = .bool false ∧ e = .int .i64 (exTo s (j + 1 + 1) x : Nat)) (fun i _ _ => k - (intOf i).toNat)
        case atStart => exact ⟨j + 1 + 1, by omega, by omega, by go_num, rfl, by rw [exTo_self]; rfl⟩
        case round =>
          obtain ⟨x, hx0, hx1, rfl, rfl, rfl⟩ := hrel
          have hl := exTo_lt s (j + 1 + 1) x
          by_cases hxk : x < k
          · obtain ⟨y0, y1, y2⟩ := HD.out x hx0 hxk
            have y95 : ((s[x].toNat : Int) == 95) = false := by rw [beq_eq_false_iff_ne]; omega
            have hE := exTo_succ s (j + 1 + 1) x hx0 y0
            unfold exStep at hE
            by_cases h4 : exTo s (j + 1 + 1) x < 10000
            · rw [if_pos h4] at hE
              have hE2 : ((exTo s (j + 1 + 1) (x + 1) : Nat) : Int) = (exTo s (j + 1 + 1) x : Int) * 10 + (s[x].toNat : Int) - 48 := by omega
              have HE := Lib.hid hE2
              clear hE hE2
              go_wp2_with fail
              exact ⟨⟨x + 1, by omega, by omega, by go_num, rfl, by rw [HE.out]⟩, by simp [intOf]; omega⟩
            · rw [if_neg h4] at hE
              have HE := Lib.hid hE
              clear hE
              go_wp2_with fail
              exact ⟨⟨x + 1, by omega, by omega, by go_num, rfl, by rw [HE.out]⟩, by simp [intOf]; omega⟩
          · obtain rfl : x = k := by omega
            by_cases hM : M = 0
            · have hM0 : ((M : Int) != 0) = false := by rw [bne_eq_false_iff_eq]; omega
              have HM := Lib.hid hM
              clear hM
              go_wp2_with fail
              exact bodyPost_ret (v := .tuple #[.int .u64 M, .int .i64 0, .bool true, .bool tr, .bool false, .int .i64 x, .bool true]) (by simp [results, Tryz.results72, go_sem]) rfl ⟨by rw [Ht.out, RS.ex, if_pos HM.out], rfl⟩
            · have hM0 : ((M : Int) != 0) = true := by rw [bne_iff_ne]; omega
              have HM := Lib.hid hM
              clear hM
              go_wp2_with fail
              exact bodyPost_ret (v := .tuple #[.int .u64 M, .int .i64 (d + -(exTo s (j + 1 + 1) x : Int) - m), .bool true, .bool tr, .bool false, .int .i64 x, .bool true]) (by simp [results, Tryz.results72, go_sem]) rfl ⟨by rw [Ht.out, RS.ex, if_neg HM.out, if_pos rfl], rfl⟩

end Go.Proofs.YtnibfebfgdhfgaaGreatDoor
