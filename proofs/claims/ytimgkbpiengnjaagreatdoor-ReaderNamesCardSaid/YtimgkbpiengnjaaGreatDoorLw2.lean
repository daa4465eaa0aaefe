/- Plain facts, of no program: words as a line, and back. No condition. -/
import Derived.Test.YtimgkbpiengnjaaGreatDoorLw1
namespace Go.Proofs.YtimgkbpiengnjaaGreatDoor.Lw

def plainC (c : UInt8) : Bool := decide (33 ≤ c.toNat ∧ c.toNat ≤ 126) && !(c == 34) && !(c == 39) && !(c == 92)
def digC (n : Nat) : UInt8 := UInt8.ofNat (if n < 10 then 48 + n else 87 + n)
def qByte (c : UInt8) : List UInt8 := if c = 34 ∨ c = 92 then [92, c] else if c.toNat < 32 ∨ 126 < c.toNat then [92, 120, digC (c.toNat / 16), digC (c.toNat % 16)] else [c]
def qWord (w : List UInt8) : List UInt8 := 34 :: (w.flatMap qByte ++ [34])
def isPl (i : Nat) (w : List UInt8) : Bool := !w.isEmpty && w.all plainC && (decide (0 < i) || !(w.head? == some 42))
def wordQ (i : Nat) (w : List UInt8) : List UInt8 := if isPl i w then w else qWord w
def quoteFrom : Nat → List (List UInt8) → List UInt8
  | _, [] => []
  | i, w :: r => (if i = 0 then [] else [32]) ++ wordQ i w ++ quoteFrom (i + 1) r

theorem plain_all : ∀ n : Fin 256, plainC (UInt8.ofNat n.1) = true → gap (UInt8.ofNat n.1) = false ∧ UInt8.ofNat n.1 ≠ 34 ∧ UInt8.ofNat n.1 ≠ 39 := by decide +kernel
theorem plain_gap {c : UInt8} (h : plainC c = true) : gap c = false ∧ c ≠ 34 ∧ c ≠ 39 := by
  have := plain_all ⟨c.toNat, c.toNat_lt⟩
  simp only [UInt8.ofNat_toNat] at this
  exact this h
theorem hex_all : ∀ n : Fin 256, hexN (digC (n.1 / 16)) < 16 ∧ hexN (digC (n.1 % 16)) < 16 ∧ UInt8.ofNat (16 * hexN (digC (n.1 / 16)) + hexN (digC (n.1 % 16))) = UInt8.ofNat n.1 := by decide +kernel
theorem escX_two (a b : UInt8) (r : List UInt8) : escX (a :: b :: r) = if hexN a < 16 ∧ hexN b < 16 then (UInt8.ofNat (16 * hexN a + hexN b), r) else (120, a :: b :: r) := rfl
theorem marked_q (w : List UInt8) : ∀ (v : List UInt8) (out : List (List UInt8)) (t : List UInt8), wrun (.marked 34 v out) (w.flatMap qByte ++ 34 :: t) = wrun (.after (out ++ [v ++ w])) t := by
  induction w with
  | nil => intro v out t; show wrun _ (34 :: t) = _; rw [marked_end, List.append_nil]
  | cons c w ih =>
    intro v out t
    rw [List.flatMap_cons, List.append_assoc]
    have e : v ++ c :: w = (v ++ [c]) ++ w := by simp
    rw [e, ← ih]
    generalize w.flatMap qByte ++ 34 :: t = T
    by_cases h : c = 34 ∨ c = 92
    · rw [show qByte c = [92, c] from if_pos h]
      show wrun _ (92 :: c :: T) = _
      rw [marked_esc]
      have : esc c T = (c, T) := by rcases h with rfl | rfl <;> rfl
      rw [this]
    · by_cases h2 : c.toNat < 32 ∨ 126 < c.toNat
      · rw [show qByte c = [92, 120, digC (c.toNat / 16), digC (c.toNat % 16)] by unfold qByte; rw [if_neg h, if_pos h2]]
        show wrun _ (92 :: 120 :: digC (c.toNat / 16) :: digC (c.toNat % 16) :: T) = _
        rw [marked_esc]
        have h3 := hex_all ⟨c.toNat, c.toNat_lt⟩
        simp only [UInt8.ofNat_toNat] at h3
        have : esc 120 (digC (c.toNat / 16) :: digC (c.toNat % 16) :: T) = (c, T) := by
          unfold esc
          rw [if_neg (by decide), if_neg (by decide), if_neg (by decide), if_pos rfl, escX_two, if_pos ⟨h3.1, h3.2.1⟩, h3.2.2]
        rw [this]
      · rw [show qByte c = [c] by unfold qByte; rw [if_neg h, if_neg h2]]
        show wrun _ (c :: T) = _
        rw [marked_byte 34 c _ _ _ (fun e => h (.inl e)) (.inl fun e => h (.inr e))]
theorem wordQ_run (i : Nat) (w : List UInt8) (out : List (List UInt8)) (t : List UInt8) (ht : t.head?.all gap) : wrun (.gap out) (wordQ i w ++ t) = wrun (.gap (out ++ [w])) t := by
  unfold wordQ
  split
  · rename_i h
    unfold isPl at h
    simp only [Bool.and_eq_true] at h
    obtain ⟨⟨h1, h2⟩, -⟩ := h
    cases w with
    | nil => cases h1
    | cons c r =>
      have hc := plain_gap (List.all_eq_true.1 h2 c (by simp))
      have h3 : ∀ x ∈ c :: r, (!gap x) = true := fun x hx => by rw [(plain_gap (List.all_eq_true.1 h2 x hx)).1]; rfl
      have e1 : ((c :: r) ++ t).takeWhile (fun c => !gap c) = c :: r := by
        rw [List.takeWhile_append_of_pos h3]
        cases t with
        | nil => simp
        | cons a t => rw [List.takeWhile_cons, if_neg (by simp only [List.head?_cons, Option.all_some] at ht; rw [ht]; decide)]; simp
      have e2 : ((c :: r) ++ t).dropWhile (fun c => !gap c) = t := by
        rw [List.dropWhile_append_of_pos h3]
        cases t with
        | nil => simp
        | cons a t => rw [List.dropWhile_cons, if_neg (by simp only [List.head?_cons, Option.all_some] at ht; rw [ht]; decide)]
      have := wrun_first out c (r ++ t) hc.1 hc.2.1 hc.2.2
      rw [← List.cons_append, e1, e2] at this
      exact this
  · have e : qWord w ++ t = 34 :: (w.flatMap qByte ++ 34 :: t) := by unfold qWord; simp
    rw [e, wrun_mark _ _ _ (.inl rfl), marked_q, wrun_after, if_pos ht, List.nil_append]
theorem gaps_run (t : List UInt8) (ht : t.all gap) (out : List (List UInt8)) : wrun (.gap out) t = check out := by
  rw [wrun_trim]
  have : t.dropWhile gap = [] := by
    induction t with
    | nil => rfl
    | cons c t ih =>
      simp only [List.all_cons, Bool.and_eq_true] at ht
      rw [List.dropWhile_cons, if_pos ht.1]
      exact ih ht.2
  rw [this, w_gap0]
theorem quote_run (l : List (List UInt8)) (t : List UInt8) (ht : t.all gap) : ∀ (i : Nat) (out : List (List UInt8)), wrun (.gap out) (quoteFrom i l ++ t) = check (out ++ l) := by
  induction l with
  | nil => intro i out; rw [List.append_nil]; exact gaps_run t ht out
  | cons w r ih =>
    intro i out
    have e : out ++ w :: r = (out ++ [w]) ++ r := by simp
    have hh : (quoteFrom (i + 1) r ++ t).head?.all gap := by
      cases r with
      | nil => cases t with
        | nil => rfl
        | cons a t => simp only [List.all_cons, Bool.and_eq_true] at ht; exact ht.1
      | cons a r => show (Option.some (32 : UInt8)).all gap = true; decide
    rw [e, ← ih (i + 1)]
    show wrun _ (_ ++ _ ++ _ ++ t) = _
    rw [List.append_assoc, List.append_assoc]
    split
    · rw [List.nil_append, wordQ_run _ _ _ _ hh]
    · rw [List.singleton_append, w_gap, if_pos (by decide), wordQ_run _ _ _ _ hh]
/-- What a line of quoted words holds. -/
theorem wordQ_bytes (i : Nat) (w : List UInt8) : ∀ c ∈ wordQ i w, 32 ≤ c.toNat ∧ c.toNat ≤ 126 := by
  intro c hc
  unfold wordQ at hc
  split at hc
  · rename_i h
    unfold isPl at h
    simp only [Bool.and_eq_true] at h
    have := List.all_eq_true.1 h.1.2 c hc
    unfold plainC at this
    simp only [Bool.and_eq_true, decide_eq_true_eq] at this
    omega
  · unfold qWord at hc
    rcases List.mem_cons.1 hc with rfl | hc
    · decide
    · rcases List.mem_append.1 hc with hc | hc
      · obtain ⟨a, ha, hc⟩ := List.mem_flatMap.1 hc
        have key : ∀ n : Fin 256, (qByte (UInt8.ofNat n.1)).all fun c => decide (32 ≤ c.toNat ∧ c.toNat ≤ 126) := by decide +kernel
        have h3 := key ⟨a.toNat, a.toNat_lt⟩
        simp only [UInt8.ofNat_toNat] at h3
        simpa using List.all_eq_true.1 h3 c hc
      · rw [List.mem_singleton] at hc
        subst hc
        decide
theorem quote_bytes (l : List (List UInt8)) : ∀ (i : Nat), ∀ c ∈ quoteFrom i l, 32 ≤ c.toNat ∧ c.toNat ≤ 126 := by
  induction l with
  | nil => intro i c h; cases h
  | cons w r ih =>
    intro i c h
    rcases List.mem_append.1 h with h | h
    · rcases List.mem_append.1 h with h | h
      · split at h
        · cases h
        · rw [List.mem_singleton] at h; subst h; decide
      · exact wordQ_bytes i w c h
    · exact ih _ c h
theorem quote_head (w : List UInt8) (r : List (List UInt8)) : ∃ c t, quoteFrom 0 (w :: r) = c :: t ∧ c ≠ 42 := by
  show ∃ c t, [] ++ wordQ 0 w ++ _ = _ ∧ _
  rw [List.nil_append]
  unfold wordQ
  split
  · rename_i h
    cases w with
    | nil => cases h
    | cons c t =>
      refine ⟨c, _, rfl, fun e => ?_⟩
      subst e
      unfold isPl at h
      simp at h
  · exact ⟨34, _, rfl, by decide⟩
end Go.Proofs.YtimgkbpiengnjaaGreatDoor.Lw
