/- Package container/heap: Push, Pop, Fix, Remove. Conditions: bounds. -/
import Derived.Test.YtabhnnffohnecaaEb2
namespace Go.Proofs.Ytabhnnffohnecaa.Ea
open Go.ChangeShapes Go.WideShapes Go.ChangeAt Go.RowKit
section
variable {α : Type} {l l' : List α} {n : Nat}
theorem Sh.last (h : Sh l l' n) {a : α} (hl : l.length = n + 1) (ha : l[n]? = some a) : ∃ m, l' = m ++ [a] := by
  have h1 := h.rest n (Nat.le_refl _)
  rw [ha] at h1
  have h2 := h.len
  have hne : l' ≠ [] := fun e => by rw [e] at h2; simp at h2; omega
  refine ⟨l'.dropLast, ?_⟩
  have h3 := List.dropLast_concat_getLast hne
  rw [List.getLast_eq_getElem] at h3
  have hn : l'.length - 1 = n := by omega
  have h4 : l'[l'.length - 1]'(by omega) = a := by
    have := List.getElem?_eq_getElem (l := l') (i := l'.length - 1) (by omega)
    rw [← hn] at h1
    rw [h1] at this
    exact (Option.some.inj this).symm
  rw [h4] at h3
  exact h3.symm
theorem Hp.init {le : α → α → Prop} {a : α} (h : Hp le (l ++ [a]) n) (hn : n ≤ l.length) : Hp le l n := fun k h0 hk => by
  have := h k h0 hk
  have hp := par_lt h0
  unfold leA at this ⊢
  rw [List.getElem?_append_left (by omega), List.getElem?_append_left (by omega)] at this
  exact this
end
set_option maxHeartbeats 4000000 in
set_option maxRecDepth 100000 in
theorem fix_calls {α : Type} {P : List α → World → Prop} {lt : α → α → Bool} {T : TypeId} {v : Value} (hI : Iface P lt T v) (o : Ord (leB lt)) (w : World) (l : List α) (i : Nat) (hl : l.length ≤ 1000000000) (hi : i < l.length) (hP : P l w) (hD : Dn (leB lt) l l.length i) :
    Calls Try.prog 23 #[.iface T v, .int .i64 i] w fun e w' => e = .returned (.tuple #[]) ∧ ∃ l', P l' w' ∧ List.Perm l' l ∧ Hp (leB lt) l' l.length := by
  have HI := Lib.hid hI
  have HO := Lib.hid o
  have HD := Lib.hid hD
  obtain ⟨f, rv, hm, hcf, HC⟩ := hI.len l w hP
  have HC := Lib.hid HC
  clear hI o hP hD
  dsimp only at hcf
  go_enter Try.func23, Try.ntmps23
  go_wp2_with fail
  refine HC.out.mono ?_; rintro en w1 ⟨rfl, hP1⟩
  have H2 := Lib.hid (down_calls HI.out HO.out w1 l l.length i (Nat.le_refl _) hl (Nat.le_of_lt hi) hP1 HD.out)
  clear hm hcf HC hP1
  go_wp2_with fail
  refine H2.out.mono ?_; rintro en w2 ⟨b, rfl, l2, hP2, hS2, hb⟩
  have HS2 := Lib.hid hS2
  cases b with
  | true =>
    have HB : Hid (Hp (leB lt) l2 l.length) := Lib.hid hb
    have HP2 := Lib.hid hP2
    clear hb hP2 hS2 H2
    go_wp2_with fail
    go_end0
    exact ⟨rfl, l2, HP2.out, HS2.out.perm, HB.out⟩
  | false =>
    have hlen := hS2.len
    have H3 := Lib.hid (up_calls HI.out HO.out w2 l2 l.length i (by omega) (by omega) hi hP2 hb)
    clear hb hP2 hS2 H2
    go_wp2_with fail
    refine H3.out.mono ?_; rintro en w3 ⟨rfl, l3, hP3, hS3, hb3⟩
    have HZ := Lib.hid (And.intro hP3 (And.intro hS3 hb3))
    clear hP3 hS3 hb3 H3
    go_wp2_with fail
    go_end0
    exact ⟨rfl, l3, HZ.out.1, HZ.out.2.1.perm.trans HS2.out.perm, HZ.out.2.2⟩
set_option maxHeartbeats 4000000 in
set_option maxRecDepth 100000 in
theorem push_calls {α : Type} {P : List α → World → Prop} {lt : α → α → Bool} {T : TypeId} {v : Value} (hI : Iface P lt T v) (o : Ord (leB lt)) (w : World) (l : List α) (a : α) (x : Value) (hl : l.length < 1000000000)
    (hX : Inv w T v "Push" (fun r => #[r, x]) fun e w' => e = .returned (.tuple #[]) ∧ P (l ++ [a]) w') (hH : Hp (leB lt) l l.length) :
    Calls Try.prog 24 #[.iface T v, x] w fun e w' => e = .returned (.tuple #[]) ∧ ∃ l', P l' w' ∧ List.Perm l' (l ++ [a]) ∧ Hp (leB lt) l' (l.length + 1) := by
  have HI := Lib.hid hI
  have HO := Lib.hid o
  have HH := Lib.hid (hH.more a rfl)
  obtain ⟨f, rv, hm, hcf, HC⟩ := hX
  have HC := Lib.hid HC
  have hlen : (l ++ [a]).length = l.length + 1 := by simp
  clear hI o hH
  dsimp only at hcf
  generalize l ++ [a] = m at *
  go_enter Try.func24, Try.ntmps24
  go_wp2_with fail
  refine HC.out.mono ?_; rintro en w1 ⟨rfl, hP1⟩
  clear hm hcf HC
  obtain ⟨f2, rv2, hm2, hcf2, HC2⟩ := HI.out.len m w1 hP1
  have HC2 := Lib.hid HC2
  rw [hlen] at HC2
  clear hP1
  dsimp only at hcf2
  go_wp2_with fail
  refine HC2.out.mono ?_; rintro en w2 ⟨rfl, hP2⟩
  have H3 := Lib.hid (up_calls HI.out HO.out w2 m (l.length + 1) l.length (by omega) (by omega) (by omega) hP2 HH.out)
  have e1 : (((l.length + 1 : Nat) : Int) - 1) = (l.length : Int) := by omega
  clear hm2 hcf2 HC2 hP2
  go_wp2_with fail
  refine H3.out.mono ?_; rintro en w3 ⟨rfl, l3, hP3, hS3, hb3⟩
  have HZ := Lib.hid (And.intro hP3 (And.intro hS3 hb3))
  clear hP3 hS3 hb3 H3
  go_wp2_with fail
  go_end0
  exact ⟨rfl, l3, HZ.out.1, HZ.out.2.1.perm, HZ.out.2.2⟩
/-- What a removed one's Pop leaves. -/
def PopC {α : Type} (P : List α → World → Prop) (T : TypeId) (v : Value) (R : α → List α → Ending → World → Prop) : Prop := ∀ l a w, P (l ++ [a]) w → Inv w T v "Pop" (fun r => #[r]) (R a l)
theorem swp_last {α : Type} {l : List α} {n i : Nat} (hl : l.length = n + 1) (hi : i < n) : (swp l i n)[n]? = some (l[i]'(by omega)) := by
  rw [swp_get (by omega) (by omega), if_neg (by omega), if_pos rfl]
  exact List.getElem?_eq_getElem (by omega)
/-- A heap of n + 1 whose i-th and last have changed places: the first n are one but at i. -/
theorem Hp.cut {α : Type} {le : α → α → Prop} {l : List α} {n i : Nat} (h : Hp le l (n + 1)) (o : Ord le) (hl : l.length = n + 1) (hi : i < n) : Dn le (swp l i n) n i := by
  have h1 := h.mono (Nat.le_succ n)
  refine ⟨fun k h0 hk hne hpne => ?_, fun k h0 hk hi0 e => ?_⟩
  · have := par_lt h0
    rw [leA_swp (by omega) (by omega)]
    have t : ∀ x, x ≠ i → x < n → tr i n x = x := fun x a b => by unfold tr; rw [if_neg a, if_neg (by omega)]
    rw [t k hne hk, t _ hpne (by omega)]
    exact h1 k h0 hk
  · have := par_lt h0
    have := par_lt hi0
    rw [leA_swp (by omega) (by omega)]
    have t : ∀ x, x ≠ i → x < n → tr i n x = x := fun x a b => by unfold tr; rw [if_neg a, if_neg (by omega)]
    rw [t k (by omega) hk, t _ (by omega) (by omega)]
    have h2 := h1 k h0 hk
    rw [e] at h2
    exact leA_trans o (by omega) (h1 i hi0 hi) h2
set_option maxHeartbeats 4000000 in
set_option maxRecDepth 100000 in
theorem pop_calls {α : Type} {P : List α → World → Prop} {lt : α → α → Bool} {T : TypeId} {v : Value} {R : α → List α → Ending → World → Prop} {val : α → Value} (hI : Iface P lt T v) (o : Ord (leB lt)) (hX : PopC P T v R) (hR : ∀ a l e w', R a l e w' → e = .returned (val a)) (w : World) (l : List α) (n : Nat) (hl : l.length = n + 1) (hl2 : n < 1000000000) (hP : P l w) (hH : Hp (leB lt) l (n + 1)) :
    Calls Try.prog 30 #[.iface T v] w fun e w' => ∃ l', e = .returned (val (l[0]'(by omega))) ∧ R (l[0]'(by omega)) l' e w' ∧ List.Perm (l' ++ [l[0]'(by omega)]) l ∧ Hp (leB lt) l' n := by
  have HI := Lib.hid hI
  have HO := Lib.hid o
  have HX := Lib.hid hX
  have HR := Lib.hid hR
  have HD : Hid (Dn (leB lt) (swp l 0 n) n 0) := Lib.hid (by
    rcases Nat.eq_zero_or_pos n with h | h
    · subst h; exact ⟨fun k h0 hk _ _ => absurd hk (by omega), fun k _ hk _ _ => absurd hk (by omega)⟩
    · exact hH.cut o hl h)
  have HA : Hid ((swp l 0 n)[n]? = some (l[0]'(by omega))) := Lib.hid (by
    rcases Nat.eq_zero_or_pos n with h | h
    · subst h
      rw [swp_get (by omega) (by omega), if_pos rfl]
      exact List.getElem?_eq_getElem (by omega)
    · exact swp_last hl h)
  have HPm : Hid (List.Perm (swp l 0 n) l) := Lib.hid swp_perm
  have hsl : (swp l 0 n).length = n + 1 := by rw [swp_len]; exact hl
  obtain ⟨f, rv, hm, hcf, HC⟩ := hI.len l w hP
  have HC := Lib.hid HC
  rw [hl] at HC
  generalize l[0]'(by omega) = a at *
  clear hI o hP hX hR hH
  dsimp only at hcf
  go_enter Try.func30, Try.ntmps30
  go_wp2_with fail
  refine HC.out.mono ?_; rintro en w1 ⟨rfl, hP1⟩
  clear hm hcf HC
  have e1 : (((n + 1 : Nat) : Int) - 1) = (n : Int) := by omega
  have HS := Lib.hid (HI.out.swap l w1 0 n (by omega) (by omega) hP1)
  clear hP1
  obtain ⟨f2, rv2, hm2, hcf2, HC2⟩ := HS.out
  have HC2 := Lib.hid HC2
  clear HS
  dsimp only at hcf2
  rw [show ((0 : Nat) : Int) = 0 from rfl] at hcf2 HC2
  go_wp2_with fail
  refine HC2.out.mono ?_; rintro en w2 ⟨rfl, hP2⟩
  clear hm2 hcf2 HC2
  have H3 := Lib.hid (down_calls HI.out HO.out w2 (swp l 0 n) n 0 (by omega) (by omega) (Nat.zero_le _) hP2 HD.out)
  rw [show ((0 : Nat) : Int) = 0 from rfl] at H3
  clear hP2
  generalize swp l 0 n = s at *
  go_wp2_with fail
  refine H3.out.mono ?_; rintro en w3 ⟨b, rfl, l3, hP3, hS3, hb3⟩
  have hH3 : Hp (leB lt) l3 n := by
    cases b with
    | true => exact hb3
    | false => exact hb3.done (.inl rfl)
  obtain ⟨l4, rfl⟩ := hS3.last hsl HA.out
  have hn4 : l4.length = n := by have := hS3.len; simp at this; omega
  have HZ := Lib.hid (And.intro (hH3.init (by omega)) (hS3.perm.trans HPm.out))
  obtain ⟨f5, rv5, hm5, hcf5, HC5⟩ := HX.out l4 a w3 hP3
  have HC5 := Lib.hid HC5
  clear hP3 hS3 hb3 hH3 H3 HX
  dsimp only at hcf5
  go_wp2_with fail
  refine HC5.out.mono ?_; intro en w5 hR5
  obtain rfl := HR.out _ _ _ _ hR5
  have HR5 := Lib.hid hR5
  clear hR5 HC5 hm5 hcf5
  go_wp2_with fail
  go_ret
  exact ⟨l4, rfl, HR5.out, HZ.out.2, HZ.out.1⟩
set_option maxHeartbeats 4000000 in
set_option maxRecDepth 100000 in
theorem remove_calls {α : Type} {P : List α → World → Prop} {lt : α → α → Bool} {T : TypeId} {v : Value} {R : α → List α → Ending → World → Prop} {val : α → Value} (hI : Iface P lt T v) (o : Ord (leB lt)) (hX : PopC P T v R) (hR : ∀ a l e w', R a l e w' → e = .returned (val a)) (w : World) (l : List α) (n i : Nat) (hl : l.length = n + 1) (hl2 : n < 1000000000) (hi : i < l.length) (hP : P l w) (hH : Hp (leB lt) l (n + 1)) :
    Calls Try.prog 25 #[.iface T v, .int .i64 i] w fun e w' => ∃ l', e = .returned (val l[i]) ∧ R l[i] l' e w' ∧ List.Perm (l' ++ [l[i]]) l ∧ Hp (leB lt) l' n := by
  have HI := Lib.hid hI
  have HO := Lib.hid o
  have HX := Lib.hid hX
  have HR := Lib.hid hR
  obtain ⟨f, rv, hm, hcf, HC⟩ := hI.len l w hP
  have HC := Lib.hid HC
  rw [hl] at HC
  have HH := Lib.hid hH
  clear hI o hP hX hR hH
  dsimp only at hcf
  have e1 : (((n + 1 : Nat) : Int) - 1) = (n : Int) := by omega
  by_cases hin : i = n
  case pos =>
    subst hin
    have HA : Hid (l[i]? = some l[i]) := Lib.hid (List.getElem?_eq_getElem hi)
    generalize l[i] = a at *
    go_enter Try.func25, Try.ntmps25
    go_wp2_with fail
    refine HC.out.mono ?_; rintro en w1 ⟨rfl, hP1⟩
    clear hm hcf HC
    obtain ⟨l4, rfl⟩ := (Sh.refl l i).last hl HA.out
    have hn4 : l4.length = i := by simp at hl; omega
    have HZ := Lib.hid (And.intro ((HH.out.mono (Nat.le_succ i)).init (by omega)) (List.Perm.refl (l4 ++ [a])))
    obtain ⟨f5, rv5, hm5, hcf5, HC5⟩ := HX.out l4 a w1 hP1
    have HC5 := Lib.hid HC5
    clear hP1 HX
    dsimp only at hcf5
    go_wp2_with fail
    refine HC5.out.mono ?_; intro en w5 hR5
    obtain rfl := HR.out _ _ _ _ hR5
    have HR5 := Lib.hid hR5
    clear hR5 HC5 hm5 hcf5
    go_wp2_with fail
    go_ret
    exact ⟨l4, rfl, HR5.out, HZ.out.2, HZ.out.1⟩
  case neg =>
    have hil : i < n := by omega
    have hne : ((n : Int) == (i : Int)) = false := by simp; omega
    have HD : Hid (Dn (leB lt) (swp l i n) n i) := Lib.hid (HH.out.cut HO.out hl hil)
    have HA : Hid ((swp l i n)[n]? = some l[i]) := Lib.hid (swp_last hl hil)
    have HPm : Hid (List.Perm (swp l i n) l) := Lib.hid swp_perm
    have hsl : (swp l i n).length = n + 1 := by rw [swp_len]; exact hl
    generalize l[i] = a at *
    go_enter Try.func25, Try.ntmps25
    go_wp2_with fail
    refine HC.out.mono ?_; rintro en w1 ⟨rfl, hP1⟩
    clear hm hcf HC HH
    have HS := Lib.hid (HI.out.swap l w1 i n (by omega) (by omega) hP1)
    clear hP1
    obtain ⟨f2, rv2, hm2, hcf2, HC2⟩ := HS.out
    have HC2 := Lib.hid HC2
    clear HS
    dsimp only at hcf2
    go_wp2_with fail
    refine HC2.out.mono ?_; rintro en w2 ⟨rfl, hP2⟩
    clear hm2 hcf2 HC2
    have H3 := Lib.hid (down_calls HI.out HO.out w2 (swp l i n) n i (by omega) (by omega) (by omega) hP2 HD.out)
    clear hP2
    generalize swp l i n = s at *
    go_wp2_with fail
    refine H3.out.mono ?_; rintro en w3 ⟨b, rfl, l3, hP3, hS3, hb3⟩
    have HS3 := Lib.hid hS3
    have hl3 := hS3.len
    clear hS3 H3
    cases b with
    | true =>
      have hH3 : Hp (leB lt) l3 n := hb3
      clear hb3
      obtain ⟨l4, rfl⟩ := HS3.out.last hsl HA.out
      have hn4 : l4.length = n := by simp at hl3; omega
      have HZ := Lib.hid (And.intro (hH3.init (by omega)) (HS3.out.perm.trans HPm.out))
      obtain ⟨f5, rv5, hm5, hcf5, HC5⟩ := HX.out l4 a w3 hP3
      have HC5 := Lib.hid HC5
      clear hP3 hH3 HX hl3
      dsimp only at hcf5
      go_wp2_with fail
      refine HC5.out.mono ?_; intro en w5 hR5
      obtain rfl := HR.out _ _ _ _ hR5
      have HR5 := Lib.hid hR5
      clear hR5 HC5 hm5 hcf5
      go_wp2_with fail
      go_ret
      exact ⟨l4, rfl, HR5.out, HZ.out.2, HZ.out.1⟩
    | false =>
      have H4 := Lib.hid (up_calls HI.out HO.out w3 l3 n i (by omega) (by omega) hil hP3 hb3)
      clear hb3 hP3
      go_wp2_with fail
      refine H4.out.mono ?_; rintro en w4 ⟨rfl, l5, hP5, hS5, hH5⟩
      clear H4
      have hS6 := HS3.out.trans hS5
      obtain ⟨l4, rfl⟩ := hS6.last hsl HA.out
      have hn4 : l4.length = n := by have := hS6.len; simp at this; omega
      have HZ := Lib.hid (And.intro (hH5.init (by omega)) (hS6.perm.trans HPm.out))
      obtain ⟨f5, rv5, hm5, hcf5, HC5⟩ := HX.out l4 a w4 hP5
      have HC5 := Lib.hid HC5
      clear hP5 hS5 hH5 hS6 HX hl3
      dsimp only at hcf5
      go_wp2_with fail
      refine HC5.out.mono ?_; intro en w5 hR5
      obtain rfl := HR.out _ _ _ _ hR5
      have HR5 := Lib.hid hR5
      clear hR5 HC5 hm5 hcf5
      go_wp2_with fail
      go_ret
      exact ⟨l4, rfl, HR5.out, HZ.out.2, HZ.out.1⟩
end Go.Proofs.Ytabhnnffohnecaa.Ea
