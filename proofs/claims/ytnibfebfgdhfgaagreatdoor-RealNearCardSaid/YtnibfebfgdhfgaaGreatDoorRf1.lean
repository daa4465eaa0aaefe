/- Plain facts, of no program: what the library's reader makes of digits with a point and a power of ten. No condition. -/
import Derived.Test.YtnibfebfgdhfgaaGreatDoorFm3
namespace Go.Proofs.YtnibfebfgdhfgaaGreatDoor.Rf
open Go Go.Proofs.YtnibfebfgdhfgaaGreatDoor.Sh

/-- What has been read: the digits' number, how many count, how many are kept, where the point stands; whether there was a point, a digit, one that was cut. -/
structure RS where
  m : Nat
  nd : Nat
  nm : Nat
  dp : Int
  dot : Bool
  dig : Bool
  tr : Bool
def RS.step (t : RS) (c : UInt8) : RS :=
  if c.toNat = 46 then ⟨t.m, t.nd, t.nm, t.nd, true, t.dig, t.tr⟩
  else if c.toNat = 48 ∧ t.nd = 0 then ⟨t.m, t.nd, t.nm, t.dp - 1, t.dot, true, t.tr⟩
  else if t.nm < 19 then ⟨t.m * 10 + (c.toNat - 48), t.nd + 1, t.nm + 1, t.dp, t.dot, true, t.tr⟩
  else ⟨t.m, t.nd + 1, t.nm, t.dp, t.dot, true, t.tr || decide (c.toNat ≠ 48)⟩
def rs0 : RS := ⟨0, 0, 0, 0, false, false, false⟩
def RS.run (l : List UInt8) : RS := l.foldl RS.step rs0
def RS.ex (t : RS) (E : Int) : Int := if t.m = 0 then 0 else (if t.dot then t.dp else (t.nd : Int)) + E - t.nm
/-- What has been read from i on up to j. -/
def rsTo (s : ByteArray) (i j : Nat) : RS := RS.run ((s.data.toList.take j).drop i)
theorem take_drop_snoc (s : ByteArray) (i j : Nat) (h0 : i ≤ j) (h : j < s.size) : (s.data.toList.take (j + 1)).drop i = (s.data.toList.take j).drop i ++ [s[j]] := by
  have e : s.data.toList[j]? = some s[j] := by
    rw [Array.getElem?_toList]
    exact Array.getElem?_eq_getElem h
  have hl : s.data.toList.length = s.size := Array.length_toList
  rw [List.take_add_one, e, List.drop_append]
  have : i - (s.data.toList.take j).length = 0 := by rw [List.length_take]; omega
  rw [this]
  rfl
theorem rsTo_self (s : ByteArray) (i : Nat) : rsTo s i i = rs0 := by
  unfold rsTo
  rw [List.drop_of_length_le (by rw [List.length_take]; omega)]
  rfl
theorem rsTo_succ (s : ByteArray) (i j : Nat) (h0 : i ≤ j) (h : j < s.size) : rsTo s i (j + 1) = (rsTo s i j).step s[j] := by
  unfold rsTo RS.run
  rw [take_drop_snoc s i j h0 h, List.foldl_append]
  rfl
/-- Digits and at most one point, no point ahead. -/
def Mant (s : ByteArray) (i b : Nat) : Prop := ∀ j, i ≤ j → j < b → ∃ h : j < s.size, (s[j].toNat = 46 ∧ (rsTo s i j).dot = false ∧ i < j) ∨ (48 ≤ s[j].toNat ∧ s[j].toNat ≤ 57)
structure Fine (t : RS) (n : Nat) : Prop where
  m0 : t.m < 10 ^ t.nm
  nm : t.nm ≤ 19
  nd : t.nm ≤ t.nd
  len : t.nd ≤ n
  lo : -(n : Int) ≤ t.dp
  hi : t.dp ≤ n
theorem rs0_fine (n : Nat) : Fine rs0 n := ⟨by decide, by decide, by decide, Nat.zero_le _, by show -(n : Int) ≤ 0; omega, by show (0 : Int) ≤ n; omega⟩
theorem step_fine {t : RS} {n : Nat} (h : Fine t n) (c : UInt8) (hc : c.toNat ≤ 57) : Fine (t.step c) (n + 1) := by
  obtain ⟨a, b, c1, d, e, f⟩ := h
  unfold RS.step
  by_cases h1 : c.toNat = 46
  · rw [if_pos h1]
    exact ⟨a, b, c1, by show t.nd ≤ n + 1; omega, by show -((n + 1 : Nat) : Int) ≤ (t.nd : Int); omega, by show (t.nd : Int) ≤ ((n + 1 : Nat) : Int); omega⟩
  · rw [if_neg h1]
    by_cases h2 : c.toNat = 48 ∧ t.nd = 0
    · rw [if_pos h2]
      exact ⟨a, b, c1, by show t.nd ≤ n + 1; omega, by show -((n + 1 : Nat) : Int) ≤ t.dp - 1; omega, by show t.dp - 1 ≤ ((n + 1 : Nat) : Int); omega⟩
    · rw [if_neg h2]
      by_cases h3 : t.nm < 19
      · rw [if_pos h3]
        refine ⟨?_, by show t.nm + 1 ≤ 19; omega, by show t.nm + 1 ≤ t.nd + 1; omega, by show t.nd + 1 ≤ n + 1; omega, by show -((n + 1 : Nat) : Int) ≤ t.dp; omega, by show t.dp ≤ ((n + 1 : Nat) : Int); omega⟩
        show t.m * 10 + (c.toNat - 48) < 10 ^ (t.nm + 1)
        rw [Nat.pow_succ]
        omega
      · rw [if_neg h3]
        exact ⟨a, b, by show t.nm ≤ t.nd + 1; omega, by show t.nd + 1 ≤ n + 1; omega, by show -((n + 1 : Nat) : Int) ≤ t.dp; omega, by show t.dp ≤ ((n + 1 : Nat) : Int); omega⟩
theorem mant_fine {s : ByteArray} {i b : Nat} (hm : Mant s i b) : ∀ j, i ≤ j → j ≤ b → Fine (rsTo s i j) (j - i) := by
  intro j hj hb
  obtain ⟨n, rfl⟩ : ∃ n, j = i + n := ⟨j - i, by omega⟩
  rw [show i + n - i = n by omega]
  clear hj
  induction n with
  | zero => rw [Nat.add_zero, rsTo_self]; exact rs0_fine _
  | succ n ih =>
    obtain ⟨h, hc⟩ := hm (i + n) (by omega) (by omega)
    rw [← Nat.add_assoc, rsTo_succ s i (i + n) (by omega) h]
    exact step_fine (ih (by omega)) _ (by rcases hc with ⟨q, _⟩ | ⟨_, q⟩ <;> omega)
theorem fine_bounds {t : RS} {n : Nat} (h : Fine t n) : t.m < 10000000000000000000 ∧ (t.nm < 19 → t.m < 1000000000000000000) := by
  have a := h.m0
  have b := h.nm
  constructor
  · have := Nat.pow_le_pow_right (n := 10) (by omega) b
    omega
  · intro hc
    have := Nat.pow_le_pow_right (n := 10) (by omega) (show t.nm ≤ 18 by omega)
    omega
theorem mant_dig {s : ByteArray} {i b : Nat} (hm : Mant s i b) (hb : i < b) : ∀ j, i < j → j ≤ b → (rsTo s i j).dig = true := by
  have key : ∀ (t : RS) (c : UInt8), t.dig = true ∨ c.toNat ≠ 46 → (t.step c).dig = true := by
    intro t c h
    unfold RS.step
    by_cases h1 : c.toNat = 46
    · rw [if_pos h1]; exact h.resolve_right (fun q => q h1)
    · rw [if_neg h1]
      split
      · rfl
      · split <;> rfl
  intro j hj hb2
  obtain ⟨n, rfl⟩ : ∃ n, j = i + 1 + n := ⟨j - (i + 1), by omega⟩
  clear hj
  induction n with
  | zero =>
    obtain ⟨h, hc⟩ := hm i (Nat.le_refl _) hb
    rw [Nat.add_zero, rsTo_succ s i i (Nat.le_refl _) h]
    exact key _ _ (.inr (by rcases hc with ⟨_, _, q⟩ | ⟨q, _⟩ <;> omega))
  | succ n ih =>
    obtain ⟨h, hc⟩ := hm (i + 1 + n) (by omega) (by omega)
    rw [← Nat.add_assoc, rsTo_succ s i (i + 1 + n) (by omega) h]
    exact key _ _ (.inl (ih (by omega)))
/-- The power of ten's digits; past 10000 they no longer count. -/
def exStep (e : Nat) (c : UInt8) : Nat := if e < 10000 then e * 10 + (c.toNat - 48) else e
def exTo (s : ByteArray) (i j : Nat) : Nat := ((s.data.toList.take j).drop i).foldl exStep 0
theorem exTo_self (s : ByteArray) (i : Nat) : exTo s i i = 0 := by
  unfold exTo
  rw [List.drop_of_length_le (by rw [List.length_take]; omega)]
  rfl
theorem exTo_succ (s : ByteArray) (i j : Nat) (h0 : i ≤ j) (h : j < s.size) : exTo s i (j + 1) = exStep (exTo s i j) s[j] := by
  unfold exTo
  rw [take_drop_snoc s i j h0 h, List.foldl_append]
  rfl
theorem exTo_lt (s : ByteArray) (i j : Nat) : exTo s i j < 102100 := by
  unfold exTo
  generalize (s.data.toList.take j).drop i = l
  have key : ∀ (l : List UInt8) (e : Nat), e < 102100 → l.foldl exStep e < 102100 := by
    intro l
    induction l with
    | nil => intro e h; exact h
    | cons c l ih =>
      intro e h
      refine ih _ ?_
      unfold exStep
      have := c.toNat_lt
      split <;> omega
  exact key l 0 (by omega)

/-! Numbers: what the reader keeps is worth what the text says. -/
structure Short (t : RS) : Prop where
  eq : t.nm = t.nd
  z : t.nd = 0 → t.m = 0
  tr : t.tr = false
theorem run_digits (D : List UInt8) : ∀ (t : RS), (∀ c ∈ D, digit c = true) → Short t → t.nd + D.length ≤ 19 →
    Short (D.foldl RS.step t) ∧ (D.foldl RS.step t).m = t.m * 10 ^ D.length + valN D ∧ (D.foldl RS.step t).dot = t.dot ∧ (D.foldl RS.step t).dp - (D.foldl RS.step t).nm = t.dp - t.nm - D.length ∧ (D.foldl RS.step t).nd ≤ t.nd + D.length ∧ ((1 ≤ t.nd ∨ ∃ c l, D = c :: l ∧ c.toNat ≠ 48) → (D.foldl RS.step t).nd = t.nd + D.length) := by
  induction D with
  | nil =>
    intro t _ h _
    refine ⟨h, ?_, rfl, ?_, ?_, ?_⟩
    · show t.m = t.m * 10 ^ 0 + valN []
      rw [show valN [] = 0 from rfl]; omega
    · show t.dp - t.nm = t.dp - t.nm - ((0 : Nat) : Int); omega
    · show t.nd ≤ t.nd + 0; omega
    · intro _; rfl
  | cons c D ih =>
    intro t hD h hn
    rw [List.length_cons] at hn
    have hc := hD c (List.mem_cons_self ..)
    unfold digit at hc
    rw [decide_eq_true_eq] at hc
    have hD2 : ∀ c ∈ D, digit c = true := fun x hx => hD x (List.mem_cons_of_mem _ hx)
    obtain ⟨a, b, d⟩ := h
    rw [List.foldl_cons]
    have h1 : ¬ c.toNat = 46 := by omega
    by_cases h2 : c.toNat = 48 ∧ t.nd = 0
    · have e : t.step c = ⟨t.m, t.nd, t.nm, t.dp - 1, t.dot, true, t.tr⟩ := by unfold RS.step; rw [if_neg h1, if_pos h2]
      rw [e]
      obtain ⟨p1, p2, p3, p4, p5, p6⟩ := ih ⟨t.m, t.nd, t.nm, t.dp - 1, t.dot, true, t.tr⟩ hD2 ⟨a, b, d⟩ (by show t.nd + D.length ≤ 19; omega)
      refine ⟨p1, ?_, p3, ?_, ?_, ?_⟩
      · rw [p2, valN_cons, b h2.2, h2.1]
        simp
      · rw [p4, List.length_cons]
        show t.dp - 1 - (t.nm : Int) - (D.length : Int) = _
        omega
      · rw [List.length_cons]
        have : (D.foldl RS.step ⟨t.m, t.nd, t.nm, t.dp - 1, t.dot, true, t.tr⟩).nd ≤ t.nd + D.length := p5
        omega
      · intro hh
        rcases hh with hh | ⟨c', l', hcl, hne⟩
        · omega
        · injection hcl with q1 q2
          subst q1
          exact absurd h2.1 hne
    · have e : t.step c = ⟨t.m * 10 + (c.toNat - 48), t.nd + 1, t.nm + 1, t.dp, t.dot, true, t.tr⟩ := by unfold RS.step; rw [if_neg h1, if_neg h2, if_pos (by omega)]
      rw [e]
      obtain ⟨p1, p2, p3, p4, p5, p6⟩ := ih ⟨t.m * 10 + (c.toNat - 48), t.nd + 1, t.nm + 1, t.dp, t.dot, true, t.tr⟩ hD2 ⟨by show t.nm + 1 = t.nd + 1; omega, (fun q => by cases q), d⟩ (by show t.nd + 1 + D.length ≤ 19; omega)
      refine ⟨p1, ?_, p3, ?_, ?_, ?_⟩
      · rw [p2, valN_cons, List.length_cons, Nat.pow_succ]
        show (t.m * 10 + (c.toNat - 48)) * 10 ^ D.length + valN D = _
        rw [Nat.add_mul, Nat.mul_assoc, Nat.mul_comm 10]
        omega
      · rw [p4, List.length_cons]
        show t.dp - ((t.nm + 1 : Nat) : Int) - (D.length : Int) = _
        omega
      · rw [List.length_cons]
        have : (D.foldl RS.step ⟨t.m * 10 + (c.toNat - 48), t.nd + 1, t.nm + 1, t.dp, t.dot, true, t.tr⟩).nd ≤ t.nd + 1 + D.length := p5
        omega
      · intro _
        rw [p6 (.inl (by show 1 ≤ t.nd + 1; omega)), List.length_cons]
        show t.nd + 1 + D.length = _
        omega
theorem rs0_short : Short rs0 := ⟨rfl, fun _ => rfl, rfl⟩
/-- Digits without a point. -/
theorem run_whole (D : List UInt8) (hD : ∀ c ∈ D, digit c = true) (hl : D.length ≤ 19) : (RS.run D).m = valN D ∧ (RS.run D).tr = false ∧ ∀ E : Int, valN D ≠ 0 → (RS.run D).ex E = E := by
  obtain ⟨p1, p2, p3, p4, p5, -⟩ := run_digits D rs0 hD rs0_short (by show 0 + D.length ≤ 19; omega)
  have e : (RS.run D).m = valN D := by
    show (D.foldl RS.step rs0).m = _
    rw [p2]; show 0 * 10 ^ D.length + valN D = _; omega
  refine ⟨e, p1.tr, fun E hne => ?_⟩
  unfold RS.ex
  rw [e, if_neg hne, show (RS.run D).dot = false from p3]
  have := p1.eq
  show (if false = true then _ else (((D.foldl RS.step rs0).nd : Nat) : Int)) + E - (((D.foldl RS.step rs0).nm : Nat) : Int) = E
  rw [if_neg (by decide), this]
  omega
/-- Digits with a point. -/
theorem run_point (A B : List UInt8) (hA : ∀ c ∈ A, digit c = true) (hB : ∀ c ∈ B, digit c = true) (hl : A.length + B.length ≤ 19) : (RS.run (A ++ 46 :: B)).m = valN (A ++ B) ∧ (RS.run (A ++ 46 :: B)).tr = false ∧ ∀ E : Int, valN (A ++ B) ≠ 0 → (RS.run (A ++ 46 :: B)).ex E = E - B.length := by
  obtain ⟨p1, p2, p3, p4, p5, -⟩ := run_digits A rs0 hA rs0_short (by show 0 + A.length ≤ 19; omega)
  have e0 : RS.run (A ++ 46 :: B) = B.foldl RS.step ((A.foldl RS.step rs0).step 46) := by unfold RS.run; rw [List.foldl_append, List.foldl_cons]
  rw [e0]
  generalize A.foldl RS.step rs0 = t at *
  have e1 : t.step 46 = ⟨t.m, t.nd, t.nm, t.nd, true, t.dig, t.tr⟩ := by unfold RS.step; rw [if_pos (by decide)]
  rw [e1]
  have p5' : t.nd ≤ A.length := by have : t.nd ≤ 0 + A.length := p5; omega
  obtain ⟨q1, q2, q3, q4, q5, -⟩ := run_digits B ⟨t.m, t.nd, t.nm, t.nd, true, t.dig, t.tr⟩ hB ⟨p1.eq, p1.z, p1.tr⟩ (by show t.nd + B.length ≤ 19; omega)
  have e : (B.foldl RS.step ⟨t.m, t.nd, t.nm, t.nd, true, t.dig, t.tr⟩).m = valN (A ++ B) := by
    rw [q2, valN_app]
    show t.m * 10 ^ B.length + valN B = _
    rw [p2]
    show (0 * 10 ^ A.length + valN A) * 10 ^ B.length + valN B = _
    rw [Nat.zero_mul, Nat.zero_add]
  refine ⟨e, q1.tr, fun E hne => ?_⟩
  unfold RS.ex
  rw [e, if_neg hne, q3]
  have h1 := p1.eq
  have h2 : (B.foldl RS.step ⟨t.m, t.nd, t.nm, t.nd, true, t.dig, t.tr⟩).dp - (B.foldl RS.step ⟨t.m, t.nd, t.nm, t.nd, true, t.dig, t.tr⟩).nm = (t.nd : Int) - (t.nm : Int) - (B.length : Int) := q4
  rw [if_pos rfl]
  omega
/-- Whole digits with more than 19 places, noughts at the end. -/
theorem run_long (D : List UInt8) (z : Nat) (hD : ∀ c ∈ D, digit c = true) (h0 : ∃ c l, D = c :: l ∧ c.toNat ≠ 48) (hl : D.length = 19) : (RS.run (D ++ List.replicate z 48)).m = valN D ∧ (RS.run (D ++ List.replicate z 48)).tr = false ∧ ∀ E : Int, valN D ≠ 0 → (RS.run (D ++ List.replicate z 48)).ex E = E + z := by
  obtain ⟨p1, p2, p3, p4, p5, p6⟩ := run_digits D rs0 hD rs0_short (by show 0 + D.length ≤ 19; omega)
  have p6' := p6 (.inr h0)
  have e0 : RS.run (D ++ List.replicate z 48) = (List.replicate z (48 : UInt8)).foldl RS.step (D.foldl RS.step rs0) := by unfold RS.run; rw [List.foldl_append]
  rw [e0]
  have hm : (D.foldl RS.step rs0).m = valN D := by rw [p2]; show 0 * 10 ^ D.length + valN D = _; omega
  have hnd : (D.foldl RS.step rs0).nd = 19 := by rw [p6']; show 0 + D.length = 19; omega
  have hnm : (D.foldl RS.step rs0).nm = 19 := by rw [p1.eq, hnd]
  have hdot : (D.foldl RS.step rs0).dot = false := p3
  have htr := p1.tr
  generalize D.foldl RS.step rs0 = t at *
  have key : ∀ (z : Nat) (t : RS), t.nm = 19 → 1 ≤ t.nd → t.tr = false → t.dot = false → ((List.replicate z (48 : UInt8)).foldl RS.step t).m = t.m ∧ ((List.replicate z (48 : UInt8)).foldl RS.step t).nm = 19 ∧ ((List.replicate z (48 : UInt8)).foldl RS.step t).nd = t.nd + z ∧ ((List.replicate z (48 : UInt8)).foldl RS.step t).tr = false ∧ ((List.replicate z (48 : UInt8)).foldl RS.step t).dot = false := by
    intro z
    induction z with
    | zero => intro t a _ c d; exact ⟨rfl, a, rfl, c, d⟩
    | succ z ih =>
      intro t a b c d
      rw [List.replicate_succ, List.foldl_cons]
      have e : t.step 48 = ⟨t.m, t.nd + 1, t.nm, t.dp, t.dot, true, t.tr || decide ((48 : UInt8).toNat ≠ 48)⟩ := by
        unfold RS.step
        rw [if_neg (by decide), if_neg (by omega), if_neg (by omega)]
      rw [e]
      obtain ⟨q1, q2, q3, q4, q5⟩ := ih ⟨t.m, t.nd + 1, t.nm, t.dp, t.dot, true, t.tr || decide ((48 : UInt8).toNat ≠ 48)⟩ a (by show 1 ≤ t.nd + 1; omega) (by show (t.tr || decide ((48 : UInt8).toNat ≠ 48)) = false; rw [c]; decide) d
      refine ⟨q1, q2, ?_, q4, q5⟩
      rw [q3]
      show t.nd + 1 + z = _
      omega
  obtain ⟨q1, q2, q3, q4, q5⟩ := key z t hnm (by omega) htr hdot
  refine ⟨by rw [q1, hm], q4, fun E hne => ?_⟩
  unfold RS.ex
  rw [q1, hm, if_neg hne, q5, if_neg (by decide), q2, q3, hnd]
  omega
end Go.Proofs.YtnibfebfgdhfgaaGreatDoor.Rf
