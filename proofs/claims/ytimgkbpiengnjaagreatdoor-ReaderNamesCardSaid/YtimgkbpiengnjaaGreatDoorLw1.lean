/- Plain facts, of no program: the words of a line, byte by byte. No condition. -/
namespace Go.Proofs.YtimgkbpiengnjaaGreatDoor.Lw
/-! The words of a line, as a plain function. -/
def gap (c : UInt8) : Bool := c == 32 || c == 9
def hexN (c : UInt8) : Nat := if 48 ≤ c.toNat ∧ c.toNat ≤ 57 then c.toNat - 48 else if 97 ≤ c.toNat ∧ c.toNat ≤ 102 then c.toNat - 87 else if 65 ≤ c.toNat ∧ c.toNat ≤ 70 then c.toNat - 55 else 16
inductive St
  | gap (out : List (List UInt8))
  | bare (w : List UInt8) (out : List (List UInt8))
  | marked (m : UInt8) (w : List UInt8) (out : List (List UInt8))
  | after (out : List (List UInt8))
def escX : List UInt8 → UInt8 × List UInt8
  | a :: b :: r => if hexN a < 16 ∧ hexN b < 16 then (UInt8.ofNat (16 * hexN a + hexN b), r) else (120, a :: b :: r)
  | r => (120, r)
def esc (d : UInt8) (r : List UInt8) : UInt8 × List UInt8 :=
  if d = 110 then (10, r) else if d = 114 then (13, r) else if d = 116 then (9, r) else if d = 120 then escX r else (d, r)
theorem escX_le (r : List UInt8) : (escX r).2.length ≤ r.length := by
  unfold escX
  split
  · split
    · simp; omega
    · exact Nat.le_refl _
  · exact Nat.le_refl _
theorem esc_le (d : UInt8) (r : List UInt8) : (esc d r).2.length ≤ r.length := by
  unfold esc
  repeat' split
  all_goals first | exact Nat.le_refl _ | exact escX_le r
def fine (w : List UInt8) : Bool := decide (w.length ≤ 4096)
def check (out : List (List UInt8)) : Option (List (List UInt8)) := if decide (out.length ≤ 64) && out.all fine then some out else none
def wrun : St → List UInt8 → Option (List (List UInt8))
  | .gap out, [] => check out
  | .after out, [] => check out
  | .bare w out, [] => check (out ++ [w])
  | .marked _ _ _, [] => none
  | .gap out, c :: r => if gap c then wrun (.gap out) r else if c = 34 ∨ c = 39 then wrun (.marked c [] out) r else wrun (.bare [c] out) r
  | .bare w out, c :: r => if gap c then wrun (.gap (out ++ [w])) r else wrun (.bare (w ++ [c]) out) r
  | .after out, c :: r => if gap c then wrun (.gap out) r else none
  | .marked m w out, [c] => if c = m then check (out ++ [w]) else none
  | .marked m w out, c :: d :: r => if c = m then wrun (.after (out ++ [w])) (d :: r) else if c ≠ 92 then wrun (.marked m (w ++ [c]) out) (d :: r)
      else if m = 39 then (if d = 39 then wrun (.marked m (w ++ [39]) out) r else wrun (.marked m (w ++ [c]) out) (d :: r))
      else wrun (.marked m (w ++ [(esc d r).1]) out) (esc d r).2
termination_by _ l => l.length
decreasing_by
  all_goals simp only [List.length_cons]
  all_goals first | omega | (have := esc_le d r; omega)

theorem w_gap (out : List (List UInt8)) (c : UInt8) (r : List UInt8) : wrun (.gap out) (c :: r) = if gap c then wrun (.gap out) r else if c = 34 ∨ c = 39 then wrun (.marked c [] out) r else wrun (.bare [c] out) r := by rw [wrun]
theorem w_after (out : List (List UInt8)) (c : UInt8) (r : List UInt8) : wrun (.after out) (c :: r) = if gap c then wrun (.gap out) r else none := by rw [wrun]
theorem w_after0 (out : List (List UInt8)) : wrun (.after out) [] = check out := by rw [wrun]
theorem w_gap0 (out : List (List UInt8)) : wrun (.gap out) [] = check out := by rw [wrun]
theorem w_m0 (m : UInt8) (w : List UInt8) (out : List (List UInt8)) : wrun (.marked m w out) [] = none := by rw [wrun]
theorem w_m1 (m : UInt8) (w : List UInt8) (out : List (List UInt8)) (c : UInt8) : wrun (.marked m w out) [c] = if c = m then check (out ++ [w]) else none := by rw [wrun]
theorem w_m2 (m : UInt8) (w : List UInt8) (out : List (List UInt8)) (c d : UInt8) (r : List UInt8) : wrun (.marked m w out) (c :: d :: r) = if c = m then wrun (.after (out ++ [w])) (d :: r) else if c ≠ 92 then wrun (.marked m (w ++ [c]) out) (d :: r)
      else if m = 39 then (if d = 39 then wrun (.marked m (w ++ [39]) out) r else wrun (.marked m (w ++ [c]) out) (d :: r))
      else wrun (.marked m (w ++ [(esc d r).1]) out) (esc d r).2 := by conv => lhs; rw [wrun]
theorem check_none {out : List (List UInt8)} {w : List UInt8} (h : check out = none) : check (out ++ [w]) = none := by
  unfold check at *
  split at h
  · cases h
  · rename_i h1
    rw [if_neg]
    intro h2
    apply h1
    simp only [List.length_append, List.length_singleton, List.all_append, Bool.and_eq_true, decide_eq_true_eq] at *
    exact ⟨by omega, h2.2.1⟩
def St.out : St → List (List UInt8)
  | .gap out => out
  | .bare _ out => out
  | .marked _ _ out => out
  | .after out => out
theorem wrun_bad : ∀ (n : Nat) (st : St) (l : List UInt8), l.length ≤ n → check st.out = none → wrun st l = none := by
  intro n
  induction n with
  | zero =>
    intro st l hl h
    obtain rfl : l = [] := List.eq_nil_of_length_eq_zero (by omega)
    cases st <;> rw [wrun]
    · exact h
    · exact check_none h
    · exact h
  | succ n ih =>
    intro st l hl h
    cases l with
    | nil =>
      cases st <;> rw [wrun]
      · exact h
      · exact check_none h
      · exact h
    | cons c r =>
      have hr : r.length ≤ n := by simp at hl; omega
      cases st with
      | gap out =>
        rw [wrun]
        split
        · exact ih _ _ hr h
        · split
          · exact ih _ _ hr h
          · exact ih _ _ hr h
      | bare w out =>
        rw [wrun]
        split
        · exact ih _ _ hr (check_none h)
        · exact ih _ _ hr h
      | after out =>
        rw [wrun]
        split
        · exact ih _ _ hr h
        · rfl
      | marked m w out =>
        cases r with
        | nil =>
          rw [wrun]
          split
          · exact check_none h
          · rfl
        | cons d r =>
          rw [wrun]
          split
          · exact ih _ _ hr (check_none h)
          · split
            · exact ih _ _ hr h
            · split
              · split
                · exact ih _ _ (by simp at hr; omega) h
                · exact ih _ _ hr h
              · exact ih _ _ (by have := esc_le d r; simp at hr; omega) h
theorem wrun_after (out : List (List UInt8)) (l : List UInt8) : wrun (.after out) l = if l.head?.all gap then wrun (.gap out) l else none := by
  cases l with
  | nil => rw [wrun, wrun]; rfl
  | cons c r =>
    rw [wrun, wrun]
    show _ = if gap c = true then _ else _
    split
    · rfl
    · rfl
theorem wrun_trim (out : List (List UInt8)) (l : List UInt8) : wrun (.gap out) l = wrun (.gap out) (l.dropWhile gap) := by
  induction l with
  | nil => rfl
  | cons c r ih =>
    rw [List.dropWhile_cons]
    split
    · rename_i h
      rw [wrun, if_pos h]
      exact ih
    · rfl
theorem wrun_bare (l : List UInt8) : ∀ (w : List UInt8) (out : List (List UInt8)), wrun (.bare w out) l = wrun (.gap (out ++ [w ++ l.takeWhile fun c => !gap c])) (l.dropWhile fun c => !gap c) := by
  induction l with
  | nil => intro w out; rw [wrun]; show _ = wrun (.gap (out ++ [w ++ []])) []; rw [wrun, List.append_nil]
  | cons c r ih =>
    intro w out
    rw [wrun, List.takeWhile_cons, List.dropWhile_cons]
    by_cases h : gap c = true
    · rw [if_pos h, if_neg (by simp [h]), if_neg (by simp [h]), List.append_nil]
      rw [w_gap, if_pos h]
    · rw [if_neg h, if_pos (by simp [h]), if_pos (by simp [h]), ih]
      simp
theorem wrun_first (out : List (List UInt8)) (c : UInt8) (r : List UInt8) (h : gap c = false) (h1 : c ≠ 34) (h2 : c ≠ 39) :
    wrun (.gap out) (c :: r) = wrun (.gap (out ++ [(c :: r).takeWhile fun c => !gap c])) ((c :: r).dropWhile fun c => !gap c) := by
  rw [wrun, if_neg (by simp [h]), if_neg (by simp [h1, h2]), wrun_bare, List.takeWhile_cons, List.dropWhile_cons, if_pos (by simp [h]), if_pos (by simp [h])]
  simp
theorem wrun_mark (out : List (List UInt8)) (c : UInt8) (r : List UInt8) (h : c = 34 ∨ c = 39) : wrun (.gap out) (c :: r) = wrun (.marked c [] out) r := by
  rw [wrun, if_neg, if_pos h]
  rcases h with rfl | rfl <;> decide
theorem marked_nil (m : UInt8) (w : List UInt8) (out : List (List UInt8)) : wrun (.marked m w out) [] = none := by rw [wrun]
theorem marked_end (m : UInt8) (w : List UInt8) (out : List (List UInt8)) (r : List UInt8) : wrun (.marked m w out) (m :: r) = wrun (.after (out ++ [w])) r := by
  cases r with
  | nil => rw [w_m1, if_pos rfl, w_after0]
  | cons d r => rw [w_m2, if_pos rfl]
theorem marked_byte (m c : UInt8) (w : List UInt8) (out : List (List UInt8)) (r : List UInt8) (h : c ≠ m) (h2 : c ≠ 92 ∨ r = [] ∨ m = 39 ∧ r.head? ≠ some 39) : wrun (.marked m w out) (c :: r) = wrun (.marked m (w ++ [c]) out) r := by
  cases r with
  | nil => rw [w_m1, if_neg h, w_m0]
  | cons d r =>
    rw [w_m2, if_neg h]
    by_cases q : c = 92
    · rw [if_neg (by simp [q])]
      rcases h2 with h2 | h2 | ⟨h2, h3⟩
      · exact absurd q h2
      · cases h2
      · rw [if_pos h2, if_neg (fun e => h3 (by rw [e]; rfl))]
    · rw [if_pos q]
theorem marked_apo (w : List UInt8) (out : List (List UInt8)) (r : List UInt8) : wrun (.marked 39 w out) (92 :: 39 :: r) = wrun (.marked 39 (w ++ [39]) out) r := by
  rw [w_m2, if_neg (by decide), if_neg (by decide), if_pos rfl, if_pos rfl]
theorem marked_esc (w : List UInt8) (out : List (List UInt8)) (d : UInt8) (r : List UInt8) : wrun (.marked 34 w out) (92 :: d :: r) = wrun (.marked 34 (w ++ [(esc d r).1]) out) (esc d r).2 := by
  rw [w_m2, if_neg (by decide), if_neg (by decide), if_neg (by decide)]
end Go.Proofs.YtimgkbpiengnjaaGreatDoor.Lw
