/- readFloat at whole numbers' texts. Conditions: none. -/
import Derived.Test.YtnibfebfgdhfgaaGreatDoorFw5
import Derived.Test.YtnibfebfgdhfgaaGreatDoorFwA
namespace Go.Proofs.YtnibfebfgdhfgaaGreatDoor
open Go.ChangeShapes Go.WideShapes Go.ChangeAt Go.RowKit Go.Sort

/-- The number that these digits write. -/
def valN (l : List UInt8) : Nat := l.foldl (fun a c => a * 10 + (c.toNat - 48)) 0
theorem valN_snoc (l : List UInt8) (c : UInt8) : valN (l ++ [c]) = valN l * 10 + (c.toNat - 48) := by
  unfold valN
  rw [List.foldl_append]
  rfl
theorem valN_dec (n : Nat) : valN (Lib.decDigits n) = n := by
  induction n using Nat.strongRecOn with
  | _ n ih =>
    rw [Lib.decDigits]
    by_cases h : n < 10
    · rw [dif_pos h]
      have : ∀ k : Fin 10, valN [UInt8.ofNat (48 + k.val)] = k.val := by decide
      exact this ⟨n, h⟩
    · rw [dif_neg h, valN_snoc, ih (n / 10) (by omega)]
      have : ∀ k : Fin 10, (UInt8.ofNat (48 + k.val)).toNat - 48 = k.val := by decide
      have := this ⟨n % 10, by omega⟩
      simp only [] at this
      omega
theorem valN_lt : ∀ (m : Nat) (l : List UInt8), l.length = m → (∀ c ∈ l, c.toNat ≤ 57) → valN l < 10 ^ m
  | 0, l, h, _ => by
    obtain rfl := List.eq_nil_of_length_eq_zero h
    decide
  | m + 1, l, h, hc => by
    have hne : l ≠ [] := by intro e; subst e; cases h
    rw [← List.dropLast_concat_getLast hne, valN_snoc]
    have h1 := valN_lt m l.dropLast (by rw [List.length_dropLast]; omega) (fun c hc' => hc c ((List.dropLast_sublist l).subset hc'))
    have h2 := hc _ (List.getLast_mem hne)
    rw [Nat.pow_succ]
    omega
/-- The first m digits from i on. -/
def valAt (s : ByteArray) (i m : Nat) : Nat := valN ((s.data.toList.drop i).take m)
theorem valAt_succ (s : ByteArray) (i m : Nat) (h : i + m < s.size) : valAt s i (m + 1) = valAt s i m * 10 + (s[i + m].toNat - 48) := by
  have e : (s.data.toList.drop i)[m]? = some s[i + m] := by
    rw [List.getElem?_drop, Array.getElem?_toList]
    exact Array.getElem?_eq_getElem h
  unfold valAt
  rw [List.take_add_one, e]
  exact valN_snoc _ _
theorem valAt_lt (s : ByteArray) (i k m : Nat) (hk : s.size = k) (hm : i + m ≤ k) (hm2 : m ≤ 17) (hd : ∀ j, i ≤ j → j < k → isDig s j) : valAt s i m < 100000000000000000 := by
  have hl : ((s.data.toList.drop i).take m).length = m := by
    rw [List.length_take, List.length_drop]
    have : s.data.toList.length = s.size := Array.length_toList
    omega
  have h := valN_lt m _ hl (fun c hc => by
    obtain ⟨j, hj, rfl⟩ := List.getElem_of_mem hc
    rw [hl] at hj
    obtain ⟨x, y, z⟩ := hd (i + j) (by omega) (by omega)
    rw [List.getElem_take, List.getElem_drop]
    exact z)
  have := Nat.pow_le_pow_right (n := 10) (by omega) hm2
  unfold valAt
  omega

set_option maxHeartbeats 4000000 in
set_option maxRecDepth 100000 in
/-- readFloat at digits, the first no nought. -/
theorem readFloat_pos (s : ByteArray) (k : Nat) (hk : s.size = k) (h0 : 1 ≤ k) (h1 : k ≤ 17) (hd : ∀ j, 0 ≤ j → j < k → isDig s j) (h48 : ∀ hh : 0 < s.size, 48 < s[0].toNat) (hv : 1 ≤ valAt s 0 (k - 0)) (w : World) :
    Calls Tryz.prog 72 #[.string s] w fun e w' => e = .returned (.tuple #[.int .u64 (valAt s 0 (k - 0) : Nat), .int .i64 0, .bool false, .bool false, .bool false, .int .i64 k, .bool true]) ∧ w = w' := by
  have hne : ¬ s = ByteArray.empty := by intro h; rw [h] at hk; simp at hk; omega
  have hne2 : decide (s = ByteArray.empty) = false := by simp [hne]
  have hlt := fun m (hm : 0 + m ≤ k) => valAt_lt s 0 k m hk hm (by omega) hd
  have hsu : ∀ m (hm : m < s.size), valAt s 0 (m + 1) = valAt s 0 m * 10 + (s[m].toNat - 48) := fun m hm => by have h := valAt_succ s 0 m (by omega); simpa using h
  obtain ⟨g0, g1, g2⟩ := hd 0 (by omega) (by omega)
  have h48a := h48 g0
  have b43 : ((s[0].toNat : Int) == 43) = false := by rw [beq_eq_false_iff_ne]; omega
  have b45 : ((s[0].toNat : Int) == 45) = false := by rw [beq_eq_false_iff_ne]; omega
  have b48 : ((s[0].toNat : Int) == 48) = false := by rw [beq_eq_false_iff_ne]; omega
  have hks : (s.size : Int) = (k : Int) := by omega
  have hks1 : s.size ≤ k := by omega
  have hks2 : k ≤ s.size := by omega
  have Hk := Lib.hid hk
  have Hks := Lib.hid hks
  have Hd := Lib.hid hd
  have Hlt := Lib.hid hlt
  have Hsu := Lib.hid hsu
  have Hv := Lib.hid hv
  clear hk hks hd hlt hsu hv h48
  go_enter Tryz.func72, Tryz.ntmps72
  rcases Nat.lt_or_ge 2 k with hk2 | hk2
  all_goals
    go_wp2_with fail
    go_step3
    go_wp2_with fail
    go_step3
    go_wp2_with fail
    go_loop [2, 5, 7, 9, 13, 14, 15, 16, 17] (fun v t i u p q n nm dp => ∃ m : Nat, 0 + m ≤ k ∧ v = .int .u64 (valAt s 0 m : Nat) ∧ t = .bool false ∧ i = .int .i64 (m : Nat) ∧ u = .bool false ∧ p = .bool false ∧ q = .bool (decide (0 < m)) ∧ n = .int .i64 m ∧ nm = .int .i64 m ∧ dp = .int .i64 0) (fun _ _ i _ _ _ _ _ _ => k - (intOf i).toNat)
    case atStart => exact ⟨0, by omega, rfl, rfl, rfl, rfl, rfl, rfl, rfl, rfl, rfl⟩
    case round =>
      obtain ⟨m, hm, rfl, rfl, rfl, rfl, rfl, rfl, rfl, rfl, rfl⟩ := hrel
      have hV := Hlt.out m hm
      by_cases hj : 0 + m < k
      · obtain ⟨hjs, a, b⟩ := Hd.out (m) (by omega) (by omega)
        have hS := Hsu.out m hjs
        have b95 : ((s[m].toNat : Int) == 95) = false := by rw [beq_eq_false_iff_ne]; omega
        have b46 : ((s[m].toNat : Int) == 46) = false := by rw [beq_eq_false_iff_ne]; omega
        have hS2 : (valAt s 0 (m + 1) : Int) = (valAt s 0 m : Int) * 10 + ((s[m].toNat : Int) - 48) := by omega
        have HS := Lib.hid hS2
        have hcase : ((s[m].toNat : Int) == 48) = false ∨ (((s[m].toNat : Int) == 48) = true ∧ ((m : Int) == 0) = false) := by
          by_cases h8 : s[m].toNat = 48
          · right
            refine ⟨by rw [h8]; rfl, ?_⟩
            rw [beq_eq_false_iff_ne]
            intro hm0
            obtain rfl : m = 0 := by omega
            have h9 : s[0].toNat = 48 := h8
            omega
          · left; rw [beq_eq_false_iff_ne]; omega
        have Hcase := Lib.hid hcase
        clear hS hS2 hcase
        rcases Hcase.out with hc8 | ⟨hc8, hc9⟩
        all_goals
          go_wp2_with fail
          refine ⟨⟨m + 1, by omega, by rw [HS.out], rfl, by go_num, rfl, rfl, by rw [decide_eq_true (by omega)], by go_num, by go_num, rfl⟩, by simp [intOf]; omega⟩
      · have hq : decide (0 < m) = true := decide_eq_true (by omega)
        have hV1 : 1 ≤ valAt s 0 m := by have := Hv.out; rw [show k - 0 = m by omega] at this; exact this
        go_wp2_with fail
        exact bodyPost_ret (v := .tuple #[.int .u64 (valAt s 0 m : Nat), .int .i64 0, .bool false, .bool false, .bool false, .int .i64 ((m : Int)), .bool true]) (by simp [results, Tryz.results72, go_sem]) rfl ⟨by rw [show k - 0 = m by omega, show (k : Int) = ((m : Int)) by omega], rfl⟩

set_option maxHeartbeats 4000000 in
set_option maxRecDepth 100000 in
/-- readFloat at digits, the first no nought, behind a minus. -/
theorem readFloat_neg (s : ByteArray) (k : Nat) (hk : s.size = k) (h0 : 2 ≤ k) (h1 : k ≤ 17) (c0 : ∀ hh : 0 < s.size, (s[0].toNat : Int) = 45) (hd : ∀ j, 1 ≤ j → j < k → isDig s j) (h48 : ∀ hh : 1 < s.size, 48 < s[1].toNat) (hv : 1 ≤ valAt s 1 (k - 1)) (w : World) :
    Calls Tryz.prog 72 #[.string s] w fun e w' => e = .returned (.tuple #[.int .u64 (valAt s 1 (k - 1) : Nat), .int .i64 0, .bool true, .bool false, .bool false, .int .i64 k, .bool true]) ∧ w = w' := by
  have hne : ¬ s = ByteArray.empty := by intro h; rw [h] at hk; simp at hk; omega
  have hne2 : decide (s = ByteArray.empty) = false := by simp [hne]
  have hlt := fun m (hm : 1 + m ≤ k) => valAt_lt s 1 k m hk hm (by omega) hd
  have hsu : ∀ m (hm : 1 + m < s.size), valAt s 1 (m + 1) = valAt s 1 m * 10 + (s[1 + m].toNat - 48) := fun m hm => by have h := valAt_succ s 1 m (by omega); simpa using h
  obtain ⟨g0, g1, g2⟩ := hd 1 (by omega) (by omega)
  have h48a := h48 g0
  have c0a := c0 (Nat.lt_trans Nat.zero_lt_one g0)
  clear c0
  have b43 : ((s[1].toNat : Int) == 43) = false := by rw [beq_eq_false_iff_ne]; omega
  have b45 : ((s[1].toNat : Int) == 45) = false := by rw [beq_eq_false_iff_ne]; omega
  have b48 : ((s[1].toNat : Int) == 48) = false := by rw [beq_eq_false_iff_ne]; omega
  have hks : (s.size : Int) = (k : Int) := by omega
  have hks1 : s.size ≤ k := by omega
  have hks2 : k ≤ s.size := by omega
  have Hk := Lib.hid hk
  have Hks := Lib.hid hks
  have Hd := Lib.hid hd
  have Hlt := Lib.hid hlt
  have Hsu := Lib.hid hsu
  have Hv := Lib.hid hv
  clear hk hks hd hlt hsu hv h48
  go_enter Tryz.func72, Tryz.ntmps72
  rcases Nat.lt_or_ge 3 k with hk2 | hk2
  all_goals
    go_wp2_with fail
    go_step3
    go_wp2_with fail
    go_step3
    go_wp2_with fail
    go_loop [2, 5, 7, 9, 13, 14, 15, 16, 17] (fun v t i u p q n nm dp => ∃ m : Nat, 1 + m ≤ k ∧ v = .int .u64 (valAt s 1 m : Nat) ∧ t = .bool false ∧ i = .int .i64 (1 + m : Nat) ∧ u = .bool false ∧ p = .bool false ∧ q = .bool (decide (0 < m)) ∧ n = .int .i64 m ∧ nm = .int .i64 m ∧ dp = .int .i64 0) (fun _ _ i _ _ _ _ _ _ => k - (intOf i).toNat)
    case atStart => exact ⟨0, by omega, rfl, rfl, rfl, rfl, rfl, rfl, rfl, rfl, rfl⟩
    case round =>
      obtain ⟨m, hm, rfl, rfl, rfl, rfl, rfl, rfl, rfl, rfl, rfl⟩ := hrel
      have hV := Hlt.out m hm
      by_cases hj : 1 + m < k
      · obtain ⟨hjs, a, b⟩ := Hd.out (1 + m) (by omega) (by omega)
        have hS := Hsu.out m hjs
        have b95 : ((s[1 + m].toNat : Int) == 95) = false := by rw [beq_eq_false_iff_ne]; omega
        have b46 : ((s[1 + m].toNat : Int) == 46) = false := by rw [beq_eq_false_iff_ne]; omega
        have hS2 : (valAt s 1 (m + 1) : Int) = (valAt s 1 m : Int) * 10 + ((s[1 + m].toNat : Int) - 48) := by omega
        have HS := Lib.hid hS2
        have hcase : ((s[1 + m].toNat : Int) == 48) = false ∨ (((s[1 + m].toNat : Int) == 48) = true ∧ ((m : Int) == 0) = false) := by
          by_cases h8 : s[1 + m].toNat = 48
          · right
            refine ⟨by rw [h8]; rfl, ?_⟩
            rw [beq_eq_false_iff_ne]
            intro hm0
            obtain rfl : m = 0 := by omega
            have h9 : s[1].toNat = 48 := h8
            omega
          · left; rw [beq_eq_false_iff_ne]; omega
        have Hcase := Lib.hid hcase
        clear hS hS2 hcase
        rcases Hcase.out with hc8 | ⟨hc8, hc9⟩
        all_goals
          go_wp2_with fail
          refine ⟨⟨m + 1, by omega, by rw [HS.out], rfl, by go_num, rfl, rfl, by rw [decide_eq_true (by omega)], by go_num, by go_num, rfl⟩, by simp [intOf]; omega⟩
      · have hq : decide (0 < m) = true := decide_eq_true (by omega)
        have hV1 : 1 ≤ valAt s 1 m := by have := Hv.out; rw [show k - 1 = m by omega] at this; exact this
        go_wp2_with fail
        exact bodyPost_ret (v := .tuple #[.int .u64 (valAt s 1 m : Nat), .int .i64 0, .bool true, .bool false, .bool false, .int .i64 (1 + (m : Int)), .bool true]) (by simp [results, Tryz.results72, go_sem]) rfl ⟨by rw [show k - 1 = m by omega, show (k : Int) = (1 + (m : Int)) by omega], rfl⟩

end Go.Proofs.YtnibfebfgdhfgaaGreatDoor
