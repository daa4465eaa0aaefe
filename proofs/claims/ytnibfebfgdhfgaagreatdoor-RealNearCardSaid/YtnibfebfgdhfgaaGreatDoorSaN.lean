/- isDecimal of package real, at any text of at most 64 bytes. Conditions: none but that. -/
import Derived.Test.YtnibfebfgdhfgaaGreatDoorRf1
import Derived.Test.YtnibfebfgdhfgaaGreatDoorFle
import Derived.Test.YtnibfebfgdhfgaaGreatDoorRh1
import Derived.Test.YtnibfebfgdhfgaaGreatDoorUsa
import Derived.Test.YtnibfebfgdhfgaaGreatDoorRg1
import Derived.Test.YtnibfebfgdhfgaaGreatDoorRg2
import Derived.Test.YtnibfebfgdhfgaaGreatDoorRg3
import Derived.Test.YtnibfebfgdhfgaaGreatDoorRg4
import Derived.Test.YtnibfebfgdhfgaaGreatDoorRg5
import Derived.Test.YtnibfebfgdhfgaaGreatDoorRg6
namespace Go.Proofs.YtnibfebfgdhfgaaGreatDoor
open Go.ChangeShapes Go.WideShapes Go.ChangeAt Go.RowKit Go.Sort

/-- Behind that byte, if it stands there. -/
def aft (s : ByteArray) (i c : Nat) : Nat := if ∃ h : i < s.size, s[i].toNat = c then i + 1 else i
def aft2 (s : ByteArray) (i c d : Nat) : Nat := if ∃ h : i < s.size, s[i].toNat = c ∨ s[i].toNat = d then i + 1 else i
theorem aft_le (s : ByteArray) (i c : Nat) : i ≤ aft s i c ∧ aft s i c ≤ i + 1 ∧ (i < aft s i c → aft s i c ≤ s.size) := by
  unfold aft
  split
  · rename_i h; obtain ⟨h, -⟩ := h; omega
  · omega
theorem aft2_le (s : ByteArray) (i c d : Nat) : i ≤ aft2 s i c d ∧ aft2 s i c d ≤ i + 1 ∧ (i < aft2 s i c d → aft2 s i c d ≤ s.size) := by
  unfold aft2
  split
  · rename_i h; obtain ⟨h, -⟩ := h; omega
  · omega
theorem after_any (s t : ByteArray) (i c : Nat) (hi2 : i ≤ 100) (t0 : 1 ≤ t.size) (t1 : t.size ≤ 1) (d0 : (t[0].toNat : Int) = c) (w : World) :
    Calls Tryz.prog 19 #[.string s, .int .i64 i, .string t] w fun e w' => e = .returned (.int .i64 (aft s i c : Nat)) ∧ ∃ n, w' = w.drewN n := by
  unfold aft
  by_cases hi : i < s.size
  · by_cases hc : s[i].toNat = c
    · rw [if_pos ⟨hi, hc⟩]
      exact after_hit s t i hi hi2 t0 t1 c (by omega) d0 w
    · rw [if_neg (fun ⟨_, q⟩ => hc q)]
      exact after_miss s t i hi hi2 t0 t1 s[i].toNat c rfl d0 (by omega) w
  · rw [if_neg (fun ⟨q, _⟩ => hi q)]
    exact after_end s t i (by omega) (by omega) (by omega) t0 t1 w
set_option maxRecDepth 100000 in
theorem after_two (s t : ByteArray) (i c d : Nat) (hi2 : i ≤ 100) (t0 : 2 ≤ t.size) (t1 : t.size ≤ 2) (c0 : (t[0].toNat : Int) = c) (d0 : (t[1].toNat : Int) = d) (w : World) :
    Calls Tryz.prog 19 #[.string s, .int .i64 i, .string t] w fun e w' => e = .returned (.int .i64 (aft2 s i c d : Nat)) ∧ ∃ n, w' = w.drewN n := by
  unfold aft2
  by_cases hi : i < s.size
  · by_cases hc : s[i].toNat = c
    · rw [if_pos ⟨hi, .inl hc⟩]
      have hd : decide (i < s.size) = true := by simp; omega
      have kcd : ((s[i].toNat : Int) == (c : Int)) = true := by rw [beq_iff_eq]; omega
      clear hc
      go_enter Tryz.func19, Tryz.ntmps19
      go_wp2_with fail
      refine wp_loop_rounds 1 ?_
      rw [rounds_succ]
      go_wp2_with fail
      go_quiet (fail)
      go_wp2_with fail
      go_ret
      exact ⟨rfl, _, rfl⟩
    · by_cases hc2 : s[i].toNat = d
      · rw [if_pos ⟨hi, .inr hc2⟩]
        have hd : decide (i < s.size) = true := by simp; omega
        have kcd : ((s[i].toNat : Int) == (c : Int)) = false := by rw [beq_eq_false_iff_ne]; omega
        have kce : ((s[i].toNat : Int) == (d : Int)) = true := by rw [beq_iff_eq]; omega
        clear hc hc2
        go_enter Tryz.func19, Tryz.ntmps19
        go_wp2_with fail
        refine wp_loop_rounds 2 ?_
        rw [rounds_succ]
        go_wp2_with fail
        go_quiet (fail)
        go_wp2_with fail
        rw [rounds_succ]
        go_wp2_with fail
        go_quiet (fail)
        go_wp2_with fail
        go_ret
        exact ⟨rfl, _, rfl⟩
      · rw [if_neg (fun ⟨_, q⟩ => q.elim hc hc2)]
        exact after_miss2 s t i hi hi2 t0 t1 s[i].toNat c d rfl c0 d0 (by omega) (by omega) w
  · rw [if_neg (fun ⟨q, _⟩ => hi q)]
    have hd : decide (i < s.size) = false := by simp; omega
    have hsz : s.size ≤ i := by omega
    go_enter Tryz.func19, Tryz.ntmps19
    go_wp2_with fail
    refine wp_loop_rounds 3 ?_
    rw [rounds_succ]
    go_wp2_with fail
    go_quiet (fail)
    go_wp2_with fail
    rw [rounds_succ]
    go_wp2_with fail
    go_quiet (fail)
    go_wp2_with fail
    rw [rounds_succ]
    go_wp2_with fail
    go_ret
    exact ⟨rfl, _, rfl⟩
end Go.Proofs.YtnibfebfgdhfgaaGreatDoor
/- Plain facts, of no program: a number's text, as the library's reader reads it. No condition. -/
namespace Go.Proofs.YtnibfebfgdhfgaaGreatDoor.Rf
open Go Go.Proofs.YtnibfebfgdhfgaaGreatDoor.Sh Go.Proofs.YtnibfebfgdhfgaaGreatDoor.Us

def mant (A B : List UInt8) (pt : Bool) : List UInt8 := if pt then A ++ 46 :: B else A
/-- A text of digits, a point or none, a power of ten or none; what is read of it; what it is worth. -/
structure Body (t A B x : List UInt8) (pt : Bool) (E0 : Int) (M : Nat) (E : Int) (V : Nat) : Prop where
  eq : t = mant A B pt ++ x
  a : ∀ c ∈ A, digit c = true
  ane : A ≠ []
  b : ∀ c ∈ B, digit c = true
  bne : pt = true → B ≠ []
  hd : (A = [48] ∧ pt = true ∧ x = []) ∨ ∃ c l, A = c :: l ∧ 49 ≤ c.toNat
  x : (x = [] ∧ E0 = 0) ∨ ∃ X, X ≠ [] ∧ X.length ≤ 3 ∧ (∀ c ∈ X, digit c = true) ∧ ((x = 101 :: 43 :: X ∧ E0 = valN X) ∨ (x = 101 :: 45 :: X ∧ E0 = -(valN X : Int))) ∧ ∃ c l, A = c :: l ∧ 49 ≤ c.toNat
  m : (RS.run (mant A B pt)).m = M
  tr : (RS.run (mant A B pt)).tr = false
  ex : (RS.run (mant A B pt)).ex E0 = E
  m1 : 1 ≤ M
  val : M * 10 ^ (500 + E).toNat = V * 10 ^ 100
  sm : M ≤ 144115188075855872 ∨ (0 ≤ E ∧ E ≤ 4 ∧ M < 10000000000000000000)
  len : t.length ≤ 24
theorem first_dig (u : Nat) (hu : 1 ≤ u) : ∃ c l, Lib.decDigits u = c :: l ∧ 49 ≤ c.toNat := by
  induction u using Nat.strongRecOn with
  | _ u ih =>
    rw [Lib.decDigits]
    have d : ∀ k : Fin 10, 1 ≤ k.val → 49 ≤ (UInt8.ofNat (48 + k.val)).toNat := by decide
    by_cases h : u < 10
    · rw [dif_pos h]
      exact ⟨_, _, rfl, d ⟨u, h⟩ hu⟩
    · rw [dif_neg h]
      obtain ⟨c, l, e, hc⟩ := ih (u / 10) (by omega) (by omega)
      exact ⟨c, l ++ _, by rw [e]; rfl, hc⟩
theorem digs_first (d : Nat) (h : 1 ≤ d) : ∃ c l, digs d = c :: l ∧ 49 ≤ c.toNat := by
  have hl := digs_pos d h
  obtain ⟨c, l, e, hc⟩ := first_dig d h
  unfold digs at hl ⊢
  rw [e] at hl ⊢
  cases hs : stripTo (c :: l) (Lib.nDigits d) with
  | zero => rw [hs] at hl; simp at hl
  | succ k => exact ⟨c, l.take k, rfl, hc⟩
theorem valN_pos {c : UInt8} {l : List UInt8} (h : 49 ≤ c.toNat) : 1 ≤ valN (c :: l) := by
  rw [valN_cons]
  have := Nat.pow_pos (n := l.length) (show 0 < 10 by omega)
  have : 1 * 10 ^ l.length ≤ (c.toNat - 48) * 10 ^ l.length := Nat.mul_le_mul_right _ (by omega)
  omega
theorem valN_digs_le (d : Nat) : valN (digs d) ≤ d := by
  have e := digs_val d
  have := Nat.pow_pos (n := Lib.nDigits d - (digs d).length) (show 0 < 10 by omega)
  have : valN (digs d) * 1 ≤ valN (digs d) * 10 ^ (Lib.nDigits d - (digs d).length) := Nat.mul_le_mul_left _ this
  omega
/-- Noughts behind a point. -/
theorem run_noughts (z : Nat) (D : List UInt8) (hD : ∀ c ∈ D, digit c = true) (h0 : ∃ c l, D = c :: l ∧ 49 ≤ c.toNat) (hl : D.length ≤ 19) :
    (RS.run ([48] ++ 46 :: (List.replicate z 48 ++ D))).m = valN D ∧ (RS.run ([48] ++ 46 :: (List.replicate z 48 ++ D))).tr = false ∧ (RS.run ([48] ++ 46 :: (List.replicate z 48 ++ D))).ex 0 = -((z + D.length : Nat) : Int) := by
  have hz : ∀ (z : Nat) (dp : Int), (List.replicate z (48 : UInt8)).foldl RS.step ⟨0, 0, 0, dp, true, true, false⟩ = ⟨0, 0, 0, dp - z, true, true, false⟩ := by
    intro z
    induction z with
    | zero => intro dp; show RS.mk 0 0 0 dp true true false = _; rw [show dp - ((0 : Nat) : Int) = dp by omega]
    | succ z ih =>
      intro dp
      rw [List.replicate_succ, List.foldl_cons]
      have e : RS.step ⟨0, 0, 0, dp, true, true, false⟩ 48 = ⟨0, 0, 0, dp - 1, true, true, false⟩ := rfl
      rw [e, ih]
      congr 1
      omega
  have e0 : RS.run ([48] ++ 46 :: (List.replicate z 48 ++ D)) = D.foldl RS.step ⟨0, 0, 0, -(z : Int), true, true, false⟩ := by
    unfold RS.run
    rw [List.cons_append, List.nil_append, List.foldl_cons, List.foldl_cons, List.foldl_append]
    have e : RS.step (RS.step rs0 48) 46 = ⟨0, 0, 0, 0, true, true, false⟩ := rfl
    rw [e, hz, Int.zero_sub]
  rw [e0]
  obtain ⟨p1, p2, p3, p4, p5, p6⟩ := run_digits D ⟨0, 0, 0, -(z : Int), true, true, false⟩ hD ⟨rfl, fun _ => rfl, rfl⟩ (by show 0 + D.length ≤ 19; omega)
  have e : (D.foldl RS.step ⟨0, 0, 0, -(z : Int), true, true, false⟩).m = valN D := by rw [p2]; show 0 * 10 ^ D.length + valN D = _; omega
  refine ⟨e, p1.tr, ?_⟩
  obtain ⟨c, l, ec, hc⟩ := h0
  have hne : valN D ≠ 0 := by have := valN_pos (l := l) hc; rw [ec]; omega
  have p4 : (D.foldl RS.step ⟨0, 0, 0, -(z : Int), true, true, false⟩).dp - ((D.foldl RS.step ⟨0, 0, 0, -(z : Int), true, true, false⟩).nm : Int) = -(z : Int) - ((0 : Nat) : Int) - (D.length : Int) := p4
  unfold RS.ex
  rw [e, if_neg hne, p3]
  show (if true = true then _ else _) + 0 - _ = _
  rw [if_pos rfl]
  omega
theorem exp_shape (neg : Bool) (x : Nat) (hx : x ≤ 999) : ∃ X, X ≠ [] ∧ X.length ≤ 3 ∧ (∀ c ∈ X, digit c = true) ∧ expText neg x = 101 :: (if neg then 45 else 43) :: X ∧ valN X = x := by
  have hd : ∀ n, n ≤ 9 → digit (dgt n) = true := fun n h => by unfold digit; rw [dgt_toNat n h]; simp; omega
  have hE := expOf_text neg x hx
  have key : ∀ X : List UInt8, X ≠ [] → X.length ≤ 3 → (∀ c ∈ X, digit c = true) → expText neg x = 101 :: (if neg then 45 else 43) :: X → ∃ X, X ≠ [] ∧ X.length ≤ 3 ∧ (∀ c ∈ X, digit c = true) ∧ expText neg x = 101 :: (if neg then 45 else 43) :: X ∧ valN X = x := by
    intro X a b c e
    refine ⟨X, a, b, c, e, ?_⟩
    rw [e] at hE
    obtain ⟨h1, -⟩ := head_all c
    cases neg
    · have : ((valN (headD X) : Nat) : Int) = (x : Int) := hE
      rw [h1] at this; omega
    · have : -((valN (headD X) : Nat) : Int) = -(x : Int) := hE
      rw [h1] at this; omega
  by_cases h1 : x < 10
  · refine key [48, dgt x] (by simp) (by simp) ?_ (by unfold expText; rw [if_pos h1]; rfl)
    intro c hc
    simp only [List.mem_cons, List.not_mem_nil, or_false] at hc
    rcases hc with rfl | rfl
    · decide
    · exact hd _ (by omega)
  · by_cases h2 : x < 100
    · refine key [dgt (x / 10), dgt (x % 10)] (by simp) (by simp) ?_ (by unfold expText; rw [if_neg h1, if_pos h2]; rfl)
      intro c hc
      simp only [List.mem_cons, List.not_mem_nil, or_false] at hc
      rcases hc with rfl | rfl <;> exact hd _ (by omega)
    · refine key [dgt (x / 100), dgt (x / 10 % 10), dgt (x % 10)] (by simp) (by simp) ?_ (by unfold expText; rw [if_neg h1, if_neg h2]; rfl)
      intro c hc
      simp only [List.mem_cons, List.not_mem_nil, or_false] at hc
      rcases hc with rfl | rfl | rfl <;> exact hd _ (by omega)
theorem pow_split {a b c : Nat} (h : a + b = c) (x : Nat) : x * 10 ^ a * 10 ^ b = x * 10 ^ c := by rw [Nat.mul_assoc, ← Nat.pow_add, h]
theorem body_e (d : Nat) (p : Int) (h1 : 1 ≤ d) (hd : d ≤ 144115188075855872) (hp0 : -400 ≤ p) (hp1 : p ≤ 400) : ∃ A B x pt E0 M E, Body (eText false d p) A B x pt E0 M E (valD (d, p)) := by
  have hn : Lib.nDigits d ≤ 18 := nDigits_18 d hd
  have hl := digs_pos d h1
  have hdd := digs_digit d
  have hv := valD_digs d p h1 hp0
  have hle := valN_digs_le d
  obtain ⟨c, l, ec, hc⟩ := digs_first d h1
  have hvp : 1 ≤ valN (digs d) := by rw [ec]; exact valN_pos hc
  unfold eText
  have hnp := Lib.nDigits_pos d
  generalize hdp : (Lib.nDigits d : Int) + p = dp at *
  obtain ⟨X, x1, x2, x3, x4, x5⟩ := exp_shape (decide (dp - 1 < 0)) (dp - 1).natAbs (by omega)
  have hx : (expText (decide (dp - 1 < 0)) (dp - 1).natAbs = 101 :: 43 :: X ∧ dp - 1 = valN X) ∨ (expText (decide (dp - 1 < 0)) (dp - 1).natAbs = 101 :: 45 :: X ∧ dp - 1 = -(valN X : Int)) := by
    by_cases q : dp - 1 < 0
    · rw [decide_eq_true q] at x4 ⊢
      exact .inr ⟨x4, by omega⟩
    · rw [decide_eq_false q] at x4 ⊢
      exact .inl ⟨x4, by omega⟩
  generalize expText (decide (dp - 1 < 0)) (dp - 1).natAbs = x at *
  rw [ec] at hl hdd hvp hle hv ⊢
  have hc1 : ∀ c' ∈ [c], digit c' = true := fun c' h => hdd c' (by rw [List.mem_singleton] at h; subst h; exact List.mem_cons_self ..)
  have hl2 : ∀ c' ∈ l, digit c' = true := fun c' h => hdd c' (List.mem_cons_of_mem _ h)
  have hll : (c :: l).length = l.length + 1 := List.length_cons
  unfold mantText
  by_cases hr : (c :: l).length ≤ 1
  · have : l = [] := List.eq_nil_of_length_eq_zero (by omega)
    subst this
    rw [if_pos hr]
    obtain ⟨r1, r2, r3⟩ := run_whole [c] hc1 (by simp)
    refine ⟨[c], [], x, false, dp - 1, valN [c], dp - 1, ⟨(by simp [sgn, mant]), hc1, by simp, fun _ h => (List.not_mem_nil h).elim, fun h => (by cases h), .inr ⟨c, [], rfl, hc⟩, .inr ⟨X, x1, x2, x3, hx, c, [], rfl, hc⟩, r1, r2, r3 _ (by omega), hvp, ?_, .inl (by omega), ?_⟩⟩
    · rw [hv]
      congr 2
      rw [List.length_singleton]; omega
    · have : x.length = X.length + 2 := by rcases hx with ⟨e, -⟩ | ⟨e, -⟩ <;> rw [e] <;> simp
      simp [sgn, this]; omega
  · rw [if_neg hr]
    obtain ⟨r1, r2, r3⟩ := run_point [c] l hc1 hl2 (by rw [List.length_singleton]; omega)
    have e0 : [c] ++ l = c :: l := rfl
    rw [e0] at r1 r3
    refine ⟨[c], l, x, true, dp - 1, valN (c :: l), dp - 1 - l.length, ⟨(by simp [sgn, mant]), hc1, by simp, hl2, fun _ e => (by subst e; exact hr (by simp)), .inr ⟨c, [], rfl, hc⟩, .inr ⟨X, x1, x2, x3, hx, c, [], rfl, hc⟩, r1, r2, r3 _ (by omega), hvp, ?_, .inl (by omega), ?_⟩⟩
    · rw [hv]
      congr 2
      omega
    · have : x.length = X.length + 2 := by rcases hx with ⟨e, -⟩ | ⟨e, -⟩ <;> rw [e] <;> simp
      simp [sgn, this]; omega
theorem valN_top : ∀ (m : Nat) (l : List UInt8), l.length = m → (∀ c ∈ l, digit c = true) → valN l < 10 ^ m
  | 0, l, h, _ => by
    obtain rfl := List.eq_nil_of_length_eq_zero h
    decide
  | m + 1, l, h, hc => by
    have hne : l ≠ [] := by intro e; subst e; cases h
    rw [← List.dropLast_concat_getLast hne, valN_snoc]
    have h1 := valN_top m l.dropLast (by rw [List.length_dropLast]; omega) (fun c hc' => hc c ((List.dropLast_sublist l).subset hc'))
    have h2 := hc _ (List.getLast_mem hne)
    unfold digit at h2
    rw [decide_eq_true_eq] at h2
    rw [Nat.pow_succ]
    omega
theorem body_f (d : Nat) (p : Int) (h1 : 1 ≤ d) (hd : d ≤ 144115188075855872) (hp0 : -400 ≤ p) (hlo : -4 ≤ (Lib.nDigits d : Int) + p) (hhi : (Lib.nDigits d : Int) + p ≤ 21) : ∃ A B x pt E0 M E, Body (fixText false d p) A B x pt E0 M E (valD (d, p)) := by
  have hn : Lib.nDigits d ≤ 18 := nDigits_18 d hd
  have hl := digs_pos d h1
  have hdd := digs_digit d
  have hv := valD_digs d p h1 hp0
  have hle := valN_digs_le d
  obtain ⟨c, l, ec, hc⟩ := digs_first d h1
  have hvp : 1 ≤ valN (digs d) := by rw [ec]; exact valN_pos hc
  have hz48 : digit 48 = true := by decide
  have hnp := Lib.nDigits_pos d
  unfold fixText
  simp only []
  generalize hdp : (Lib.nDigits d : Int) + p = dp at *
  split
  · rename_i h
    obtain ⟨r1, r2, r3⟩ := run_noughts (-dp).toNat (digs d) hdd ⟨c, l, ec, hc⟩ (by omega)
    refine ⟨[48], List.replicate (-dp).toNat 48 ++ digs d, [], true, 0, valN (digs d), -(((-dp).toNat + (digs d).length : Nat) : Int), ⟨(by simp [sgn, mant]), (by simp [hz48]), (by simp), fun c' h' => ?_, fun _ e => ?_, .inl ⟨rfl, rfl, rfl⟩, .inl ⟨rfl, rfl⟩, r1, r2, r3, hvp, ?_, .inl (by omega), (by simp [sgn]; omega)⟩⟩
    · rcases List.mem_append.1 h' with q | q
      · rw [(List.mem_replicate.1 q).2]; exact hz48
      · exact hdd c' q
    · rw [ec] at e; simp at e
    · rw [hv]
      congr 2
      omega
  · split
    · rename_i h h2
      obtain ⟨r1, r2, r3⟩ := run_point ((digs d).take dp.toNat) ((digs d).drop dp.toNat) (fun c hc => hdd c (List.mem_of_mem_take hc)) (fun c hc => hdd c (List.mem_of_mem_drop hc)) (by rw [List.length_take, List.length_drop]; omega)
      rw [List.take_append_drop] at r1 r3
      have hA : ∃ l', (digs d).take dp.toNat = c :: l' := by
        rw [ec]
        cases hk : dp.toNat with
        | zero => omega
        | succ k => exact ⟨l.take k, rfl⟩
      obtain ⟨l', el⟩ := hA
      have hB : ((digs d).drop dp.toNat).length = (digs d).length - dp.toNat := List.length_drop
      refine ⟨(digs d).take dp.toNat, (digs d).drop dp.toNat, [], true, 0, valN (digs d), 0 - ((digs d).drop dp.toNat).length, ⟨(by simp [sgn, mant]), fun c hc => hdd c (List.mem_of_mem_take hc), (by rw [el]; simp), fun c hc => hdd c (List.mem_of_mem_drop hc), fun _ e => (by rw [e] at hB; simp at hB; omega), .inr ⟨c, l', el, hc⟩, .inl ⟨rfl, rfl⟩, r1, r2, r3 0 (by omega), hvp, ?_, .inl (by omega), (by simp [sgn]; omega)⟩⟩
      rw [hv, hB]
      congr 2
      omega
    · rename_i h h2
      have hAll : ∀ z, ∀ c' ∈ digs d ++ List.replicate z 48, digit c' = true := fun z c' h' => by
        rcases List.mem_append.1 h' with q | q
        · exact hdd c' q
        · rw [(List.mem_replicate.1 q).2]; exact hz48
      have hval : ∀ z, valN (digs d ++ List.replicate z 48) = valN (digs d) * 10 ^ z := fun z => by rw [valN_app, valN_zeros, List.length_replicate, Nat.add_zero]
      have hfirst : ∀ z, digs d ++ List.replicate z 48 = c :: (l ++ List.replicate z 48) := fun z => by rw [ec]; rfl
      have hlen : ∀ z, (digs d ++ List.replicate z (48 : UInt8)).length = (digs d).length + z := fun z => by rw [List.length_append, List.length_replicate]
      have hpos : ∀ z, 1 ≤ valN (digs d ++ List.replicate z 48) := fun z => by rw [hfirst]; exact valN_pos hc
      by_cases h19 : dp ≤ 19
      · obtain ⟨z, hz⟩ : ∃ z, dp.toNat - (digs d).length = z := ⟨_, rfl⟩
        rw [hz]
        obtain ⟨r1, r2, r3⟩ := run_whole (digs d ++ List.replicate z 48) (hAll z) (by rw [hlen]; omega)
        have hp := hpos z
        refine ⟨digs d ++ List.replicate z 48, [], [], false, 0, valN (digs d ++ List.replicate z 48), 0, ⟨(by simp [sgn, mant]), hAll z, (by rw [hfirst]; simp), fun _ h => (List.not_mem_nil h).elim, fun h => (by cases h), .inr ⟨c, _, hfirst z, hc⟩, .inl ⟨rfl, rfl⟩, r1, r2, r3 0 (by omega), hp, ?_, .inr ⟨by omega, by omega, ?_⟩, (by simp [sgn]; omega)⟩⟩
        · rw [hv, hval, pow_split rfl]
          congr 2
          omega
        · have h1 := valN_top _ _ rfl (hAll z)
          rw [hlen] at h1
          have h2 := Nat.pow_le_pow_right (n := 10) (by omega) (show (digs d).length + z ≤ 19 by omega)
          have h3 : (10 : Nat) ^ 19 = 10000000000000000000 := by decide
          omega
      · obtain ⟨z, hz⟩ : ∃ z, 19 - (digs d).length = z := ⟨_, rfl⟩
        obtain ⟨y, hy⟩ : ∃ y, dp.toNat - 19 = y := ⟨_, rfl⟩
        have e : dp.toNat - (digs d).length = z + y := by omega
        rw [e]
        obtain ⟨r1, r2, r3⟩ := run_long (digs d ++ List.replicate z 48) y (hAll z) ⟨c, _, hfirst z, by omega⟩ (by rw [hlen]; omega)
        have e2 : digs d ++ List.replicate z (48 : UInt8) ++ List.replicate y 48 = digs d ++ List.replicate (z + y) 48 := by rw [List.append_assoc, List.replicate_append_replicate]
        rw [e2] at r1 r2 r3
        have hp := hpos z
        refine ⟨digs d ++ List.replicate (z + y) 48, [], [], false, 0, valN (digs d ++ List.replicate z 48), 0 + y, ⟨(by simp [sgn, mant]), hAll _, (by rw [hfirst]; simp), fun _ h => (List.not_mem_nil h).elim, fun h => (by cases h), .inr ⟨c, _, hfirst _, hc⟩, .inl ⟨rfl, rfl⟩, r1, r2, r3 0 (by omega), hp, ?_, .inr ⟨by omega, by omega, ?_⟩, (by simp [sgn]; omega)⟩⟩
        · rw [hv, hval, pow_split rfl]
          congr 2
          omega
        · have h1 := valN_top _ _ rfl (hAll z)
          rw [hlen, show (digs d).length + z = 19 by omega] at h1
          have h3 : (10 : Nat) ^ 19 = 10000000000000000000 := by decide
          omega
/-- Each number's text, as it is read. -/
theorem body_reads (r : Nat) (h0 : 1 ≤ r) (h1 : r < 9218868437227405312) : ∃ A B x pt E0 M E, Body (bodyText r) A B x pt E0 M E (valD (nth r)) := by
  obtain ⟨a, b, c, d⟩ := short_fits r h0 h1
  have hd := nth_57 r h0 h1
  unfold bodyText
  rw [if_neg (by omega), if_neg (by omega)]
  split
  · exact body_e (nth r).1 (nth r).2 a hd c d
  · rename_i h
    exact body_f (nth r).1 (nth r).2 a hd c (point_low r (by omega) h1) (point_high r h0 (by omega))
end Go.Proofs.YtnibfebfgdhfgaaGreatDoor.Rf
/- readFloat at every number's text. No condition. -/
namespace Go.Proofs.YtnibfebfgdhfgaaGreatDoor.Rf
open Go.ChangeShapes Go.WideShapes Go.ChangeAt Go.RowKit Go.Sort
open Go Go.Proofs.YtnibfebfgdhfgaaGreatDoor Go.Proofs.YtnibfebfgdhfgaaGreatDoor.Sh

theorem ba_size (L : List UInt8) : (⟨L.toArray⟩ : ByteArray).size = L.length := by show L.toArray.size = _; simp
theorem ba_at (L : List UInt8) (j : Nat) (h : j < L.length) : (⟨L.toArray⟩ : ByteArray)[j]'(by rw [ba_size]; exact h) = L[j] := by
  show L.toArray[j]'(by simpa using h) = _
  simp
theorem run_dot : ∀ (D : List UInt8) (t : RS), (∀ c ∈ D, digit c = true) → (D.foldl RS.step t).dot = t.dot
  | [], _, _ => rfl
  | c :: r, t, h => by
    rw [List.foldl_cons, run_dot r _ (fun c' hc => h c' (List.mem_cons_of_mem _ hc))]
    have h1 := h c (List.mem_cons_self ..)
    unfold digit at h1
    rw [decide_eq_true_eq] at h1
    unfold RS.step
    rw [if_neg (by omega)]
    split
    · rfl
    · split <;> rfl
theorem ex_val : ∀ (X : List UInt8) (e : Nat), (∀ c ∈ X, digit c = true) → (e + 1) * 10 ^ X.length ≤ 100000 → X.foldl exStep e = X.foldl (fun a c => a * 10 + (c.toNat - 48)) e
  | [], _, _, _ => rfl
  | c :: r, e, h, hb => by
    have h1 := h c (List.mem_cons_self ..)
    unfold digit at h1
    rw [decide_eq_true_eq] at h1
    rw [List.length_cons, Nat.pow_succ] at hb
    have hp := Nat.pow_pos (n := r.length) (show 0 < 10 by omega)
    have hb2 : (e + 1) * 10 * 10 ^ r.length ≤ 100000 := by rw [Nat.mul_assoc, Nat.mul_comm 10]; exact hb
    have he : (e + 1) * 10 * 1 ≤ (e + 1) * 10 * 10 ^ r.length := Nat.mul_le_mul_left _ hp
    rw [List.foldl_cons, List.foldl_cons]
    have es : exStep e c = e * 10 + (c.toNat - 48) := by unfold exStep; rw [if_pos (by omega)]
    rw [es]
    refine ex_val r _ (fun c' hc => h c' (List.mem_cons_of_mem _ hc)) ?_
    exact Nat.le_trans (Nat.mul_le_mul_right _ (by omega)) hb2
/-- Where things lie in p ++ m ++ x. -/
theorem rs_at (p m x : List UInt8) (j : Nat) (hj : j ≤ m.length) : rsTo ⟨(p ++ (m ++ x)).toArray⟩ p.length (p.length + j) = RS.run (m.take j) := by
  unfold rsTo
  show RS.run ((((p ++ (m ++ x)).toArray).toList.take (p.length + j)).drop p.length) = _
  rw [List.take_append, List.drop_append]
  simp [List.take_of_length_le]
  rw [List.take_append_of_le_length hj]
theorem at_m (p m x : List UInt8) (j : Nat) (hj : j < m.length) : (p ++ (m ++ x))[p.length + j]'(by simp; omega) = m[j] := by
  rw [List.getElem_append_right (by omega)]
  simp only [Nat.add_sub_cancel_left]
  rw [List.getElem_append_left hj]
theorem at_x (p m x : List UInt8) (j : Nat) (hj : j < x.length) : (p ++ (m ++ x))[p.length + m.length + j]'(by simp; omega) = x[j] := by
  rw [List.getElem_append_right (by omega), List.getElem_append_right (by omega)]
  congr 1
  omega
theorem mant_at (p x A B : List UInt8) (pt : Bool) (ha : ∀ c ∈ A, digit c = true) (hne : A ≠ []) (hb : ∀ c ∈ B, digit c = true) : Mant ⟨(p ++ (mant A B pt ++ x)).toArray⟩ p.length (p.length + (mant A B pt).length) := by
  intro j h0 h1
  obtain ⟨j', rfl⟩ : ∃ j', j = p.length + j' := ⟨j - p.length, by omega⟩
  have hj : j' < (mant A B pt).length := by omega
  have hlt : p.length + j' < (p ++ (mant A B pt ++ x)).length := by simp; omega
  refine ⟨by rw [ba_size]; exact hlt, ?_⟩
  rw [ba_at _ _ hlt, at_m _ _ _ _ hj, rs_at _ _ _ _ (by omega)]
  have dg : ∀ c, digit c = true → 48 ≤ c.toNat ∧ c.toNat ≤ 57 := fun c h => by
    unfold digit at h
    exact of_decide_eq_true h
  cases pt with
  | false =>
    refine .inr (dg _ (ha _ ?_))
    exact List.getElem_mem _
  | true =>
    have e : mant A B true = A ++ 46 :: B := rfl
    simp only [e] at hj ⊢
    by_cases h2 : j' < A.length
    · rw [List.getElem_append_left h2]
      exact .inr (dg _ (ha _ (List.getElem_mem _)))
    · rw [List.getElem_append_right (by omega)]
      rcases Nat.eq_or_lt_of_le (show A.length ≤ j' by omega) with h3 | h3
      · subst h3
        refine .inl ⟨by simp, ?_, ?_⟩
        · rw [List.take_left' rfl]
          exact run_dot A rs0 ha
        · have := List.length_pos_iff.2 hne
          omega
      · have : (46 :: B)[j' - A.length]'(by simp at hj ⊢; omega) = B[j' - A.length - 1]'(by simp at hj; omega) := by
          rw [List.getElem_cons]
          rw [dif_neg (by omega)]
        rw [this]
        exact .inr (dg _ (hb _ (List.getElem_mem _)))
theorem head_at (p A B x : List UInt8) (pt : Bool) (c : UInt8) (l : List UInt8) (h : A = c :: l) : ∃ hh : p.length < (⟨(p ++ (mant A B pt ++ x)).toArray⟩ : ByteArray).size, (⟨(p ++ (mant A B pt ++ x)).toArray⟩ : ByteArray)[p.length] = c := by
  have hm : ∃ l', mant A B pt = c :: l' := by
    subst h
    cases pt
    · exact ⟨l, rfl⟩
    · exact ⟨l ++ 46 :: B, rfl⟩
  obtain ⟨l', e⟩ := hm
  have hlt : p.length + 0 < (p ++ (mant A B pt ++ x)).length := by rw [e]; simp
  refine ⟨by rw [ba_size]; exact hlt, ?_⟩
  have := ba_at _ _ hlt
  rw [at_m _ _ _ _ (by rw [e]; simp)] at this
  simp only [Nat.add_zero] at this
  rw [this]
  simp only [e, List.getElem_cons_zero]
theorem sgn_len (neg : Bool) : (sgn neg).length = if neg then 1 else 0 := by cases neg <;> rfl
set_option maxRecDepth 100000 in
theorem readFloat_body (neg : Bool) {t A B x : List UInt8} {pt : Bool} {E0 : Int} {M : Nat} {E : Int} {V : Nat} (h : Body t A B x pt E0 M E V) (w : World) :
    Calls Tryz.prog 72 #[.string ⟨(sgn neg ++ t).toArray⟩] w fun e w' => e = .returned (.tuple #[.int .u64 M, .int .i64 E, .bool neg, .bool false, .bool false, .int .i64 ((sgn neg ++ t).length : Nat), .bool true]) ∧ w = w' := by
  obtain ⟨ht, ha, hane, hb, hbne, hhd, hx, hm, htr, hex, hm1, hval, hsm, hlen⟩ := h
  subst ht
  have hM := mant_at (sgn neg) x A B pt ha hane hb
  have hR := rs_at (sgn neg) (mant A B pt) x _ (Nat.le_refl _)
  rw [List.take_length] at hR
  have hsz := ba_size (sgn neg ++ (mant A B pt ++ x))
  have hmp : 1 ≤ (mant A B pt).length := by
    have := List.length_pos_iff.2 hane
    cases pt
    · exact this
    · show 1 ≤ (A ++ 46 :: B).length; simp; omega
  have hL : (sgn neg ++ (mant A B pt ++ x)).length = (sgn neg).length + (mant A B pt).length + x.length := by simp; omega
  have hL2 : (mant A B pt ++ x).length = (mant A B pt).length + x.length := by simp
  have hsl := sgn_len neg
  have h45 : neg = true → ∀ _ : 0 < (⟨(sgn neg ++ (mant A B pt ++ x)).toArray⟩ : ByteArray).size, ((⟨(sgn neg ++ (mant A B pt ++ x)).toArray⟩ : ByteArray)[0].toNat : Int) = 45 := fun hn _ => by
    subst hn
    rfl
  -- the first digit
  have hc : ∃ c l, A = c :: l ∧ 48 ≤ c.toNat ∧ c.toNat ≤ 57 := by
    cases A with
    | nil => exact absurd rfl hane
    | cons c l =>
      have := ha c (List.mem_cons_self ..)
      unfold digit at this
      exact ⟨c, l, rfl, of_decide_eq_true this⟩
  obtain ⟨c, l, hA, c48, c57⟩ := hc
  obtain ⟨g0, gc⟩ := head_at (sgn neg) A B x pt c l hA
  rcases hx with ⟨rfl, rfl⟩ | ⟨X, x1, x2, x3, hX, c', l', hA', hc'⟩
  · -- no power of ten
    have hb0 : (sgn neg).length + (mant A B pt).length = (sgn neg ++ (mant A B pt ++ [])).length := by simp
    rw [hb0] at hM hR
    have nought : ¬ 49 ≤ c.toNat → (sgn neg).length + 1 < (sgn neg ++ (mant A B pt ++ [])).length ∧ ∃ g1 : (sgn neg).length + 1 < (⟨(sgn neg ++ (mant A B pt ++ [])).toArray⟩ : ByteArray).size, (⟨(sgn neg ++ (mant A B pt ++ [])).toArray⟩ : ByteArray)[(sgn neg).length + 1].toNat = 46 ∧ 3 ≤ (mant A B pt).length := fun h49 => by
      rcases hhd with ⟨e1, e2, -⟩ | ⟨c', l', e1, e2⟩
      · subst e1 e2
        have hB := List.length_pos_iff.2 (hbne rfl)
        have h3 : (mant [48] B true).length = B.length + 2 := by show ([48] ++ 46 :: B).length = _; simp
        have hlt : (sgn neg).length + 1 < (sgn neg ++ (mant [48] B true ++ [])).length := by rw [hL, h3]; simp only [List.length_nil]; omega
        refine ⟨hlt, by rw [ba_size]; exact hlt, ?_, by omega⟩
        rw [ba_at _ _ hlt, at_m _ _ _ _ (by omega)]
        rfl
      · rw [e1] at hA
        injection hA with e3 _
        subst e3
        exact absurd e2 h49
    generalize (⟨(sgn neg ++ (mant A B pt ++ [])).toArray⟩ : ByteArray) = s at *
    generalize (sgn neg ++ (mant A B pt ++ [])).length = k at *
    generalize hi0 : (sgn neg).length = i0 at *
    have rfin : RS.run (mant A B pt) = rsTo s i0 k := hR.symm
    rw [rfin] at hm htr hex
    simp only [List.length_nil] at hL hL2
    cases neg with
    | false =>
      obtain rfl : i0 = 0 := hsl
      clear hi0
      by_cases hk2 : k ≤ 2
      · have H := rf_end0_short s k hsz (by omega) (by omega) g0 (by rw [gc]; exact c48) (by rw [gc]; exact c57) hk2 hM w
        rw [hm, hex, htr] at H
        exact H
      · by_cases h49 : 49 ≤ c.toNat
        · have H := rf_end0_plain s k hsz (by omega) (by omega) g0 (by rw [gc]; exact c48) (by rw [gc]; exact c57) (by omega) (by rw [gc]; exact h49) hM w
          rw [hm, hex, htr] at H
          exact H
        · obtain ⟨-, g1, g46, -⟩ := nought h49
          simp only [Nat.zero_add] at g1 g46
          have H := rf_end0_nought s k hsz (by omega) (by omega) g0 (by rw [gc]; exact c48) (by rw [gc]; exact c57) (by omega) (by rw [gc]; omega) g1 (or32' _ (.inl ⟨by omega, by omega⟩)) (by omega) hM w
          rw [hm, hex, htr] at H
          exact H
    | true =>
      obtain rfl : i0 = 1 := hsl
      clear hi0
      by_cases hk2 : k ≤ 3
      · by_cases h49 : 49 ≤ c.toNat
        · have H := rf_end1_short s k hsz (by omega) (by omega) g0 (by rw [gc]; exact c48) (by rw [gc]; exact c57) (h45 rfl) hk2 hM w
          rw [hm, hex, htr] at H
          exact H
        · obtain ⟨-, -, -, g3⟩ := nought h49
          omega
      · by_cases h49 : 49 ≤ c.toNat
        · have H := rf_end1_plain s k hsz (by omega) (by omega) g0 (by rw [gc]; exact c48) (by rw [gc]; exact c57) (h45 rfl) (by omega) (by rw [gc]; exact h49) hM w
          rw [hm, hex, htr] at H
          exact H
        · obtain ⟨-, g1, g46, -⟩ := nought h49
          have g1 : 2 < s.size := g1
          have g46 : s[2].toNat = 46 := g46
          have H := rf_end1_nought s k hsz (by omega) (by omega) g0 (by rw [gc]; exact c48) (by rw [gc]; exact c57) (h45 rfl) (by omega) (by rw [gc]; omega) g1 (or32' _ (.inl ⟨by omega, by omega⟩)) (by omega) hM w
          rw [hm, hex, htr] at H
          exact H
  · -- a power of ten
    have hc49 : 49 ≤ c.toNat := by
      rw [hA'] at hA
      injection hA with e3 _
      subst e3
      exact hc'
    have hXl := List.length_pos_iff.2 x1
    obtain ⟨sg, hsg, hxe, hE0⟩ : ∃ sg : UInt8, (sg = 43 ∨ sg = 45) ∧ x = 101 :: sg :: X ∧ E0 = if sg = 45 then -(valN X : Int) else (valN X : Int) := by
      rcases hX with ⟨e, e2⟩ | ⟨e, e2⟩
      · exact ⟨43, .inl rfl, e, by rw [if_neg (by decide)]; exact e2⟩
      · exact ⟨45, .inr rfl, e, by rw [if_pos rfl]; exact e2⟩
    have hxl : x.length = X.length + 2 := by rw [hxe]; simp
    have hb1 : (sgn neg).length + (mant A B pt).length < (sgn neg ++ (mant A B pt ++ x)).length := by omega
    have hb2 : (sgn neg).length + (mant A B pt).length + 1 < (sgn neg ++ (mant A B pt ++ x)).length := by omega
    have hs1 : ∃ g : (sgn neg).length + (mant A B pt).length < (⟨(sgn neg ++ (mant A B pt ++ x)).toArray⟩ : ByteArray).size, (⟨(sgn neg ++ (mant A B pt ++ x)).toArray⟩ : ByteArray)[(sgn neg).length + (mant A B pt).length].toNat = 101 := ⟨by rw [ba_size]; exact hb1, by
      rw [ba_at _ _ hb1]
      have := at_x (sgn neg) (mant A B pt) x 0 (by omega)
      simp only [Nat.add_zero] at this
      rw [this]
      simp only [hxe]
      rfl⟩
    have hs2 : ∃ g : (sgn neg).length + (mant A B pt).length + 1 < (⟨(sgn neg ++ (mant A B pt ++ x)).toArray⟩ : ByteArray).size, (⟨(sgn neg ++ (mant A B pt ++ x)).toArray⟩ : ByteArray)[(sgn neg).length + (mant A B pt).length + 1].toNat = sg.toNat := ⟨by rw [ba_size]; exact hb2, by
      rw [ba_at _ _ hb2, at_x _ _ _ _ (by omega)]
      simp only [hxe]
      rfl⟩
    have hdg : ∀ j, (sgn neg).length + (mant A B pt).length + 1 + 1 ≤ j → j < (sgn neg ++ (mant A B pt ++ x)).length → isDig ⟨(sgn neg ++ (mant A B pt ++ x)).toArray⟩ j := fun j j0 j1 => by
      obtain ⟨j', rfl⟩ : ∃ j', j = (sgn neg).length + (mant A B pt).length + (j' + 2) := ⟨j - ((sgn neg).length + (mant A B pt).length + 2), by omega⟩
      refine ⟨by rw [ba_size]; exact j1, ?_⟩
      rw [ba_at _ _ j1, at_x _ _ _ _ (by omega)]
      have e : x[j' + 2]'(by omega) = X[j']'(by omega) := by simp only [hxe, List.getElem_cons_succ]
      rw [e]
      have := x3 _ (List.getElem_mem (l := X) (n := j') (by omega))
      unfold digit at this
      exact of_decide_eq_true this
    have hexT : exTo ⟨(sgn neg ++ (mant A B pt ++ x)).toArray⟩ ((sgn neg).length + (mant A B pt).length + 1 + 1) (sgn neg ++ (mant A B pt ++ x)).length = valN X := by
      unfold exTo
      show ((((sgn neg ++ (mant A B pt ++ x)).toArray).toList.take _).drop _).foldl exStep 0 = _
      rw [show ((sgn neg ++ (mant A B pt ++ x)).toArray).toList = sgn neg ++ (mant A B pt ++ x) from rfl, List.take_length]
      have e : (sgn neg ++ (mant A B pt ++ x)).drop ((sgn neg).length + (mant A B pt).length + 1 + 1) = X := by
        rw [← List.append_assoc, List.drop_append, List.drop_of_length_le (by simp; omega), hxe, List.nil_append, List.length_append, show (sgn neg).length + (mant A B pt).length + 1 + 1 - ((sgn neg).length + (mant A B pt).length) = 2 by omega]
        rfl
      rw [e]
      have h3 := Nat.pow_le_pow_right (n := 10) (by omega) x2
      have h4 : (10 : Nat) ^ 3 = 1000 := by decide
      rw [ex_val X 0 x3 (by omega)]
      rfl
    generalize (⟨(sgn neg ++ (mant A B pt ++ x)).toArray⟩ : ByteArray) = s at *
    generalize (sgn neg ++ (mant A B pt ++ x)).length = k at *
    generalize hbb : (sgn neg).length + (mant A B pt).length = b at *
    generalize hi0 : (sgn neg).length = i0 at *
    have rfin : RS.run (mant A B pt) = rsTo s i0 b := hR.symm
    rw [rfin] at hm htr hex
    rw [hE0] at hex
    obtain ⟨gb1, hs1⟩ := hs1
    obtain ⟨gb2, hs2⟩ := hs2
    cases neg with
    | false =>
      obtain rfl : i0 = 0 := hsl
      clear hi0
      rcases hsg with rfl | rfl
      · rw [if_neg (by decide)] at hex
        have H := rf_plus0_plain s b k hsz (by omega) (by omega) g0 (by rw [gc]; exact c48) (by rw [gc]; exact c57) (by omega) (by rw [gc]; exact hc49) hM (by omega) (by rw [hs1]; rfl) (by omega) (by rw [hs2]; rfl) (by omega) hdg w
        rw [hexT, hm, hex, htr] at H
        exact H
      · rw [if_pos rfl] at hex
        have H := rf_minus0_plain s b k hsz (by omega) (by omega) g0 (by rw [gc]; exact c48) (by rw [gc]; exact c57) (by omega) (by rw [gc]; exact hc49) hM (by omega) (by rw [hs1]; rfl) (by omega) (by rw [hs2]; rfl) (by omega) hdg w
        rw [hexT, hm, hex, htr] at H
        exact H
    | true =>
      obtain rfl : i0 = 1 := hsl
      clear hi0
      rcases hsg with rfl | rfl
      · rw [if_neg (by decide)] at hex
        have H := rf_plus1_plain s b k hsz (by omega) (by omega) g0 (by rw [gc]; exact c48) (by rw [gc]; exact c57) (h45 rfl) (by omega) (by rw [gc]; exact hc49) hM (by omega) (by rw [hs1]; rfl) (by omega) (by rw [hs2]; rfl) (by omega) hdg w
        rw [hexT, hm, hex, htr] at H
        exact H
      · rw [if_pos rfl] at hex
        have H := rf_minus1_plain s b k hsz (by omega) (by omega) g0 (by rw [gc]; exact c48) (by rw [gc]; exact c57) (h45 rfl) (by omega) (by rw [gc]; exact hc49) hM (by omega) (by rw [hs1]; rfl) (by omega) (by rw [hs2]; rfl) (by omega) hdg w
        rw [hexT, hm, hex, htr] at H
        exact H
end Go.Proofs.YtnibfebfgdhfgaaGreatDoor.Rf
/- isDecimal at every number's text. No condition. -/
namespace Go.Proofs.YtnibfebfgdhfgaaGreatDoor
open Go.ChangeShapes Go.WideShapes Go.ChangeAt Go.RowKit Go.Sort
open Rf

theorem aft_hit {s : ByteArray} {i c : Nat} (h : ∃ h : i < s.size, s[i].toNat = c) : aft s i c = i + 1 := by unfold aft; rw [if_pos h]
theorem aft_miss {s : ByteArray} {i c : Nat} (h : ∀ h : i < s.size, s[i].toNat ≠ c) : aft s i c = i := by unfold aft; rw [if_neg (fun ⟨a, b⟩ => h a b)]
theorem aft2_hit {s : ByteArray} {i c d : Nat} (h : ∃ h : i < s.size, s[i].toNat = c ∨ s[i].toNat = d) : aft2 s i c d = i + 1 := by unfold aft2; rw [if_pos h]
theorem at_app {L P Q : List UInt8} {c : UInt8} (e : L = P ++ c :: Q) : ∃ h : P.length < (⟨L.toArray⟩ : ByteArray).size, (⟨L.toArray⟩ : ByteArray)[P.length].toNat = c.toNat := by
  subst e
  have hl : P.length < (P ++ c :: Q).length := by simp
  refine ⟨by rw [ba_size]; exact hl, ?_⟩
  rw [ba_at _ _ hl]
  simp
theorem dig_app {L P D Q : List UInt8} (e : L = P ++ (D ++ Q)) (hD : ∀ c ∈ D, Sh.digit c = true) : ∀ j, P.length ≤ j → j < P.length + D.length → isDig ⟨L.toArray⟩ j := by
  intro j h0 h1
  subst e
  obtain ⟨j', rfl⟩ : ∃ j', j = P.length + j' := ⟨j - P.length, by omega⟩
  have hl : P.length + j' < (P ++ (D ++ Q)).length := by simp; omega
  refine ⟨by rw [ba_size]; exact hl, ?_⟩
  rw [ba_at _ _ hl, at_m _ _ _ _ (by omega)]
  have := hD _ (List.getElem_mem (l := D) (n := j') (by omega))
  unfold Sh.digit at this
  exact of_decide_eq_true this
theorem not_dig {s : ByteArray} {i : Nat} (h : ∀ h : i < s.size, s[i].toNat < 48 ∨ 57 < s[i].toNat) : ¬ isDig s i := fun ⟨a, b, c⟩ => by have := h a; omega
set_option maxHeartbeats 1000000 in
set_option maxRecDepth 100000 in
theorem dec_11 (s : ByteArray) (hs : s.size ≤ 64) (i1 i2 j3 : Nat) (e1 : aft s 0 45 = i1) (h12 : i1 < i2) (dA : ∀ j, i1 ≤ j → j < i2 → isDig s j) (nA : ¬ isDig s i2) (hp : ∃ h : i2 < s.size, s[i2].toNat = 46) (h23 : i2 + 1 < j3) (dB : ∀ j, i2 + 1 ≤ j → j < j3 → isDig s j) (nB : ¬ isDig s j3)
    (he : ∃ h : j3 < s.size, s[j3].toNat = 101) (hg : ∃ h : j3 + 1 < s.size, s[j3 + 1].toNat = 43 ∨ s[j3 + 1].toNat = 45) (h34 : j3 + 1 + 1 < s.size) (dX : ∀ j, j3 + 1 + 1 ≤ j → j < s.size → isDig s j) (w : World) :
    Calls Tryz.prog 15 #[.string s] w fun e w' => e = .returned (.bool true) ∧ ∃ n, w' = w.drewN n := by
  obtain ⟨hp1, -⟩ := id hp
  obtain ⟨he1, -⟩ := id he
  have A10 := fun w => after_any s ⟨#[45]⟩ 0 45 (by omega) (by decide) (by decide) rfl w
  rw [e1] at A10
  have D1 := Lib.hid (digits_calls s i1 i2 (by omega) (by omega) (by omega) dA nA)
  have A20 := fun w => after_any s ⟨#[46]⟩ i2 46 (by omega) (by decide) (by decide) rfl w
  rw [aft_hit hp] at A20
  have D3 := Lib.hid (digits_calls s (i2 + 1) j3 (by omega) (by omega) (by omega) dB nB)
  have A30 := fun w => after_any s ⟨#[101]⟩ j3 101 (by omega) (by decide) (by decide) rfl w
  rw [aft_hit he] at A30
  have A40 := fun w => after_two s ⟨#[43, 45]⟩ (j3 + 1) 43 45 (by omega) (by decide) (by decide) rfl rfl w
  rw [aft2_hit hg] at A40
  have D4 := Lib.hid (digits_calls s (j3 + 1 + 1) s.size (by omega) (by omega) (by omega) dX (isDig_end s _ (Nat.le_refl _)))
  have A1 := Lib.hid A10
  have A2 := Lib.hid A20
  have A3 := Lib.hid A30
  have A4 := Lib.hid A40
  have hk1 : decide (i1 < i2) = true := decide_eq_true h12
  have hk3 : decide (i2 + 1 < j3) = true := decide_eq_true h23
  have hr : decide (j3 + 1 + 1 < s.size) = true := decide_eq_true h34
  clear A10 A20 A30 A40 hp he hg dA nA dB nB dX
  go_enter Tryz.func15, Tryz.ntmps15
  go_wp2_with fail
  refine (A1.out _).mono ?_; rintro en w' ⟨rfl, n1, rfl⟩
  go_wp2_with fail
  refine (D1.out _).mono ?_; rintro en w' ⟨rfl, rfl⟩
  go_wp2_with fail
  refine (A2.out _).mono ?_; rintro en w' ⟨rfl, n3, rfl⟩
  go_wp2_with fail
  refine (D3.out _).mono ?_; rintro en w' ⟨rfl, rfl⟩
  go_wp2_with fail
  refine (A3.out _).mono ?_; rintro en w' ⟨rfl, n5, rfl⟩
  go_wp2_with fail
  refine (A4.out _).mono ?_; rintro en w' ⟨rfl, n6, rfl⟩
  go_wp2_with fail
  refine (D4.out _).mono ?_; rintro en w' ⟨rfl, rfl⟩
  go_wp2_with fail
  go_ret
  exact ⟨rfl, _, rfl⟩
set_option maxHeartbeats 1000000 in
set_option maxRecDepth 100000 in
theorem dec_10 (s : ByteArray) (hs : s.size ≤ 64) (i1 i2 : Nat) (e1 : aft s 0 45 = i1) (h12 : i1 < i2) (dA : ∀ j, i1 ≤ j → j < i2 → isDig s j) (nA : ¬ isDig s i2) (hp : ∃ h : i2 < s.size, s[i2].toNat = 46) (h23 : i2 + 1 < s.size) (dB : ∀ j, i2 + 1 ≤ j → j < s.size → isDig s j) (w : World) :
    Calls Tryz.prog 15 #[.string s] w fun e w' => e = .returned (.bool true) ∧ ∃ n, w' = w.drewN n := by
  have A10 := fun w => after_any s ⟨#[45]⟩ 0 45 (by omega) (by decide) (by decide) rfl w
  rw [e1] at A10
  have D1 := Lib.hid (digits_calls s i1 i2 (by omega) (by omega) (by omega) dA nA)
  have A20 := fun w => after_any s ⟨#[46]⟩ i2 46 (by omega) (by decide) (by decide) rfl w
  rw [aft_hit hp] at A20
  have D3 := Lib.hid (digits_calls s (i2 + 1) s.size (by omega) (by omega) (by omega) dB (isDig_end s _ (Nat.le_refl _)))
  have A30 := fun w => after_any s ⟨#[101]⟩ s.size 101 (by omega) (by decide) (by decide) rfl w
  rw [aft_miss (fun h => absurd h (Nat.lt_irrefl _))] at A30
  have A1 := Lib.hid A10
  have A2 := Lib.hid A20
  have A3 := Lib.hid A30
  have hk1 : decide (i1 < i2) = true := decide_eq_true h12
  have hk3 : decide (i2 + 1 < s.size) = true := decide_eq_true h23
  clear A10 A20 A30 hp dA nA dB
  go_enter Tryz.func15, Tryz.ntmps15
  go_wp2_with fail
  refine (A1.out _).mono ?_; rintro en w' ⟨rfl, n1, rfl⟩
  go_wp2_with fail
  refine (D1.out _).mono ?_; rintro en w' ⟨rfl, rfl⟩
  go_wp2_with fail
  refine (A2.out _).mono ?_; rintro en w' ⟨rfl, n3, rfl⟩
  go_wp2_with fail
  refine (D3.out _).mono ?_; rintro en w' ⟨rfl, rfl⟩
  go_wp2_with fail
  refine (A3.out _).mono ?_; rintro en w' ⟨rfl, n5, rfl⟩
  go_wp2_with fail
  go_ret
  exact ⟨rfl, _, rfl⟩
set_option maxHeartbeats 1000000 in
set_option maxRecDepth 100000 in
theorem dec_01 (s : ByteArray) (hs : s.size ≤ 64) (i1 j3 : Nat) (e1 : aft s 0 45 = i1) (h12 : i1 < j3) (dA : ∀ j, i1 ≤ j → j < j3 → isDig s j) (nA : ¬ isDig s j3)
    (he : ∃ h : j3 < s.size, s[j3].toNat = 101) (hg : ∃ h : j3 + 1 < s.size, s[j3 + 1].toNat = 43 ∨ s[j3 + 1].toNat = 45) (h34 : j3 + 1 + 1 < s.size) (dX : ∀ j, j3 + 1 + 1 ≤ j → j < s.size → isDig s j) (w : World) :
    Calls Tryz.prog 15 #[.string s] w fun e w' => e = .returned (.bool true) ∧ ∃ n, w' = w.drewN n := by
  obtain ⟨he1, he2⟩ := id he
  have A10 := fun w => after_any s ⟨#[45]⟩ 0 45 (by omega) (by decide) (by decide) rfl w
  rw [e1] at A10
  have D1 := Lib.hid (digits_calls s i1 j3 (by omega) (by omega) (by omega) dA nA)
  have A20 := fun w => after_any s ⟨#[46]⟩ j3 46 (by omega) (by decide) (by decide) rfl w
  rw [aft_miss (fun h => by rw [he2]; decide)] at A20
  have A30 := fun w => after_any s ⟨#[101]⟩ j3 101 (by omega) (by decide) (by decide) rfl w
  rw [aft_hit he] at A30
  have A40 := fun w => after_two s ⟨#[43, 45]⟩ (j3 + 1) 43 45 (by omega) (by decide) (by decide) rfl rfl w
  rw [aft2_hit hg] at A40
  have D4 := Lib.hid (digits_calls s (j3 + 1 + 1) s.size (by omega) (by omega) (by omega) dX (isDig_end s _ (Nat.le_refl _)))
  have A1 := Lib.hid A10
  have A2 := Lib.hid A20
  have A3 := Lib.hid A30
  have A4 := Lib.hid A40
  have hk1 : decide (i1 < j3) = true := decide_eq_true h12
  have hr : decide (j3 + 1 + 1 < s.size) = true := decide_eq_true h34
  clear A10 A20 A30 A40 he hg dA nA dX he2
  go_enter Tryz.func15, Tryz.ntmps15
  go_wp2_with fail
  refine (A1.out _).mono ?_; rintro en w' ⟨rfl, n1, rfl⟩
  go_wp2_with fail
  refine (D1.out _).mono ?_; rintro en w' ⟨rfl, rfl⟩
  go_wp2_with fail
  refine (A2.out _).mono ?_; rintro en w' ⟨rfl, n3, rfl⟩
  go_wp2_with fail
  refine (A3.out _).mono ?_; rintro en w' ⟨rfl, n5, rfl⟩
  go_wp2_with fail
  refine (A4.out _).mono ?_; rintro en w' ⟨rfl, n6, rfl⟩
  go_wp2_with fail
  refine (D4.out _).mono ?_; rintro en w' ⟨rfl, rfl⟩
  go_wp2_with fail
  go_ret
  exact ⟨rfl, _, rfl⟩
set_option maxHeartbeats 1000000 in
set_option maxRecDepth 100000 in
theorem dec_00 (s : ByteArray) (hs : s.size ≤ 64) (i1 : Nat) (e1 : aft s 0 45 = i1) (h12 : i1 < s.size) (dA : ∀ j, i1 ≤ j → j < s.size → isDig s j) (w : World) :
    Calls Tryz.prog 15 #[.string s] w fun e w' => e = .returned (.bool true) ∧ ∃ n, w' = w.drewN n := by
  have A10 := fun w => after_any s ⟨#[45]⟩ 0 45 (by omega) (by decide) (by decide) rfl w
  rw [e1] at A10
  have D1 := Lib.hid (digits_calls s i1 s.size (by omega) (by omega) (by omega) dA (isDig_end s _ (Nat.le_refl _)))
  have A20 := fun w => after_any s ⟨#[46]⟩ s.size 46 (by omega) (by decide) (by decide) rfl w
  rw [aft_miss (fun h => absurd h (Nat.lt_irrefl _))] at A20
  have A30 := fun w => after_any s ⟨#[101]⟩ s.size 101 (by omega) (by decide) (by decide) rfl w
  rw [aft_miss (fun h => absurd h (Nat.lt_irrefl _))] at A30
  have A1 := Lib.hid A10
  have A2 := Lib.hid A20
  have A3 := Lib.hid A30
  have hk1 : decide (i1 < s.size) = true := decide_eq_true h12
  clear A10 A20 A30 dA
  go_enter Tryz.func15, Tryz.ntmps15
  go_wp2_with fail
  refine (A1.out _).mono ?_; rintro en w' ⟨rfl, n1, rfl⟩
  go_wp2_with fail
  refine (D1.out _).mono ?_; rintro en w' ⟨rfl, rfl⟩
  go_wp2_with fail
  refine (A2.out _).mono ?_; rintro en w' ⟨rfl, n3, rfl⟩
  go_wp2_with fail
  refine (A3.out _).mono ?_; rintro en w' ⟨rfl, n5, rfl⟩
  go_wp2_with fail
  go_ret
  exact ⟨rfl, _, rfl⟩
theorem isDecimal_body (neg : Bool) {t A B x : List UInt8} {pt : Bool} {E0 : Int} {M : Nat} {E : Int} {V : Nat} (h : Body t A B x pt E0 M E V) (w : World) :
    Calls Tryz.prog 15 #[.string ⟨(sgn neg ++ t).toArray⟩] w fun e w' => e = .returned (.bool true) ∧ ∃ n, w' = w.drewN n := by
  obtain ⟨ht, ha, hane, hb, hbne, hhd, hx, -, -, -, -, -, -, hlen⟩ := h
  have hAl := List.length_pos_iff.2 hane
  have hsz := ba_size (sgn neg ++ t)
  have hsl := sgn_len neg
  have hs64 : (⟨(sgn neg ++ t).toArray⟩ : ByteArray).size ≤ 64 := by rw [hsz, List.length_append]; cases neg <;> simp [sgn] at hsl ⊢ <;> omega
  obtain ⟨R, hR⟩ : ∃ R, t = A ++ R := by
    cases pt
    · exact ⟨x, ht⟩
    · exact ⟨46 :: B ++ x, by rw [ht]; show (A ++ 46 :: B) ++ x = _; rw [List.append_assoc]⟩
  have hL : sgn neg ++ t = sgn neg ++ (A ++ R) := by rw [hR]
  have dA := dig_app hL ha
  have e1 : aft ⟨(sgn neg ++ t).toArray⟩ 0 45 = (sgn neg).length := by
    cases neg with
    | false =>
      refine aft_miss fun h => ?_
      obtain ⟨h0, g0, -⟩ := dA 0 (Nat.le_refl _) (by show 0 < 0 + A.length; omega)
      omega
    | true => exact aft_hit (at_app (P := []) (Q := t) rfl)
  rcases hx with ⟨rfl, -⟩ | ⟨X, x1, x2, x3, hX, -⟩
  · cases pt with
    | false =>
      have e : sgn neg ++ t = sgn neg ++ (A ++ []) := by rw [ht]; rfl
      have dA := dig_app e ha
      have hk : (sgn neg).length + A.length = (⟨(sgn neg ++ t).toArray⟩ : ByteArray).size := by rw [hsz, e]; simp
      rw [hk] at dA
      exact dec_00 _ hs64 _ e1 (by omega) dA w
    | true =>
      have e : sgn neg ++ t = sgn neg ++ (A ++ 46 :: B) := by rw [ht]; show _ ++ ((A ++ 46 :: B) ++ []) = _; rw [List.append_nil]
      have e2 : sgn neg ++ t = (sgn neg ++ A) ++ 46 :: B := by rw [e, List.append_assoc]
      have e3 : sgn neg ++ t = (sgn neg ++ A ++ [46]) ++ (B ++ []) := by rw [e2]; simp
      have hp := at_app e2
      have dB := dig_app e3 hb
      have hBl := List.length_pos_iff.2 (hbne rfl)
      have l2 : (sgn neg ++ A).length = (sgn neg).length + A.length := List.length_append
      have l3 : (sgn neg ++ A ++ [46]).length = (sgn neg).length + A.length + 1 := by rw [List.length_append, List.length_append]; rfl
      have hk : (sgn neg).length + A.length + 1 + B.length = (⟨(sgn neg ++ t).toArray⟩ : ByteArray).size := by rw [hsz, e3]; simp; omega
      rw [l2] at hp
      rw [l3, hk] at dB
      exact dec_10 _ hs64 _ _ e1 (by omega) dA (not_dig fun h => by obtain ⟨h', e'⟩ := hp; rw [e']; decide) hp (by omega) dB w
  · obtain ⟨sg, hsg, hxe⟩ : ∃ sg : UInt8, (sg.toNat = 43 ∨ sg.toNat = 45) ∧ x = 101 :: sg :: X := by
      rcases hX with ⟨e, -⟩ | ⟨e, -⟩
      · exact ⟨43, .inl rfl, e⟩
      · exact ⟨45, .inr rfl, e⟩
    subst hxe
    have hXl := List.length_pos_iff.2 x1
    cases pt with
    | false =>
      have e : sgn neg ++ t = (sgn neg ++ A) ++ 101 :: (sg :: X) := by rw [ht]; show _ ++ (A ++ _) = _; rw [List.append_assoc]
      have e2 : sgn neg ++ t = (sgn neg ++ A ++ [101]) ++ sg :: X := by rw [e]; simp
      have e3 : sgn neg ++ t = (sgn neg ++ A ++ [101, sg]) ++ (X ++ []) := by rw [e]; simp
      have he := at_app e
      have hg := at_app e2
      have dX := dig_app e3 x3
      have l1 : (sgn neg ++ A).length = (sgn neg).length + A.length := List.length_append
      have l2 : (sgn neg ++ A ++ [101]).length = (sgn neg).length + A.length + 1 := by rw [List.length_append, List.length_append]; rfl
      have l3 : (sgn neg ++ A ++ [101, sg]).length = (sgn neg).length + A.length + 1 + 1 := by rw [List.length_append, List.length_append]; rfl
      have hk : (sgn neg).length + A.length + 1 + 1 + X.length = (⟨(sgn neg ++ t).toArray⟩ : ByteArray).size := by rw [hsz, e3]; simp; omega
      simp only [l1] at he
      simp only [l2] at hg
      rw [l3, hk] at dX
      obtain ⟨g1, g2⟩ := hg
      exact dec_01 _ hs64 _ _ e1 (by omega) dA (not_dig fun h => by obtain ⟨h', e'⟩ := he; rw [e']; decide) he ⟨g1, by rw [g2]; exact hsg⟩ (by omega) dX w
    | true =>
      have e0 : sgn neg ++ t = (sgn neg ++ A) ++ 46 :: (B ++ 101 :: sg :: X) := by rw [ht]; show _ ++ ((A ++ 46 :: B) ++ _) = _; simp
      have e00 : sgn neg ++ t = (sgn neg ++ A ++ [46]) ++ (B ++ (101 :: sg :: X)) := by rw [e0]; simp
      have e : sgn neg ++ t = (sgn neg ++ A ++ [46] ++ B) ++ 101 :: (sg :: X) := by rw [e0]; simp
      have e2 : sgn neg ++ t = (sgn neg ++ A ++ [46] ++ B ++ [101]) ++ sg :: X := by rw [e0]; simp
      have e3 : sgn neg ++ t = (sgn neg ++ A ++ [46] ++ B ++ [101, sg]) ++ (X ++ []) := by rw [e0]; simp
      have hp := at_app e0
      have dB := dig_app e00 hb
      have he := at_app e
      have hg := at_app e2
      have dX := dig_app e3 x3
      have hBl := List.length_pos_iff.2 (hbne rfl)
      have l0 : (sgn neg ++ A).length = (sgn neg).length + A.length := List.length_append
      have l00 : (sgn neg ++ A ++ [46]).length = (sgn neg).length + A.length + 1 := by rw [List.length_append, List.length_append]; rfl
      have l1 : (sgn neg ++ A ++ [46] ++ B).length = (sgn neg).length + A.length + 1 + B.length := by simp; omega
      have l2 : (sgn neg ++ A ++ [46] ++ B ++ [101]).length = (sgn neg).length + A.length + 1 + B.length + 1 := by simp; omega
      have l3 : (sgn neg ++ A ++ [46] ++ B ++ [101, sg]).length = (sgn neg).length + A.length + 1 + B.length + 1 + 1 := by simp; omega
      have hk : (sgn neg).length + A.length + 1 + B.length + 1 + 1 + X.length = (⟨(sgn neg ++ t).toArray⟩ : ByteArray).size := by rw [hsz, e3]; simp; omega
      simp only [l0] at hp
      rw [l00] at dB
      simp only [l1] at he
      simp only [l2] at hg
      rw [l3, hk] at dX
      obtain ⟨g1, g2⟩ := hg
      exact dec_11 _ hs64 _ _ _ e1 (by omega) dA (not_dig fun h => by obtain ⟨h', e'⟩ := hp; rw [e']; decide) hp (by omega) dB (not_dig fun h => by obtain ⟨h', e'⟩ := he; rw [e']; decide) he ⟨g1, by rw [g2]; exact hsg⟩ (by omega) dX w
end Go.Proofs.YtnibfebfgdhfgaaGreatDoor
