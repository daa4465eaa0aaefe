/- Plain facts, of no program: the next line of bytes, as the checking package looks for it. No condition. -/
import Derived.Test.YtenhgjpoigkdgaaGreatDoorLw3
namespace Go.Proofs.YtenhgjpoigkdgaaGreatDoor.Lw
/-- The next line, and how many bytes it has with its end. -/
def lineR (l : List UInt8) : R (List UInt8) :=
  match (l.take 4200).drop (ahead crlf (l.take 4200)) with
  | [] => if 4200 ≤ l.length then .bad else .short
  | [13] => if 4200 ≤ l.length then .bad else .short
  | 13 :: 10 :: _ => .got ((l.take 4200).take (ahead crlf (l.take 4200))) (ahead crlf (l.take 4200) + 2)
  | _ => .bad
theorem numR_line (least most : Int) (l : List UInt8) : numR least most l = match lineR l with
    | .bad => .bad
    | .short => .short
    | .got t u => if (Num.wp t).2 = 0 ∧ least ≤ (Num.wp t).1 ∧ (Num.wp t).1 ≤ most then .got (Num.wp t).1 u else .bad := by
  unfold numR lineR
  generalize (l.take 4200).take (ahead crlf (l.take 4200)) = T
  generalize ahead crlf (l.take 4200) + 2 = U
  generalize (l.take 4200).drop (ahead crlf (l.take 4200)) = D
  split
  · by_cases h : 4200 ≤ l.length <;> simp [h]
  · by_cases h : 4200 ≤ l.length <;> simp [h]
  · rfl
  · rename_i h1 h2 h3
    split
    · rfl
    · rename_i h
      split at h
      · exact absurd rfl h1
      · exact absurd rfl h2
      · exact absurd rfl (h3 _)
      · cases h
    · rename_i t u h
      split at h
      · exact absurd rfl h1
      · exact absurd rfl h2
      · exact absurd rfl (h3 _)
      · cases h
theorem ahead_at {p : UInt8 → Bool} : ∀ {l : List UInt8} {a : Nat} (h : a < l.length), (∀ j (hj : j < a), p (l[j]'(by omega)) = false) → p l[a] = true → ahead p l = a := by
  intro l
  induction l with
  | nil => intro a h; simp at h
  | cons c l ih =>
    intro a h h1 h2
    cases a with
    | zero => unfold ahead; rw [List.takeWhile_cons, if_neg (by simpa using h2)]; rfl
    | succ a =>
      have h0 := h1 0 (by omega)
      have := ih (a := a) (by simpa using h) (fun j hj => h1 (j + 1) (by omega)) h2
      unfold ahead at this ⊢
      rw [List.takeWhile_cons, if_pos (by simpa using h0), List.length_cons, this]
theorem ahead_full {p : UInt8 → Bool} : ∀ {l : List UInt8}, (∀ j (hj : j < l.length), p l[j] = false) → ahead p l = l.length := by
  intro l
  induction l with
  | nil => intro _; rfl
  | cons c l ih =>
    intro h
    have h0 := h 0 (by simp)
    have := ih (fun j hj => h (j + 1) (by simpa using hj))
    unfold ahead at this ⊢
    rw [List.takeWhile_cons, if_pos (by simpa using h0), List.length_cons, this, List.length_cons]
/-- What the loop knows behind k bytes: none is LF, and none but the last is CR. -/
def Sought (l : List UInt8) (k : Nat) : Prop := (∀ j (_ : j < k) (h2 : j < l.length), l[j] ≠ 10) ∧ ∀ j (_ : j + 1 < k) (h2 : j < l.length), l[j] ≠ 13
theorem sought_no {l : List UInt8} {k j : Nat} (h : Sought l k) (h1 : j + 1 < k) (h2 : j < l.length) : crlf l[j] = false := by
  unfold crlf
  rw [Bool.or_eq_false_iff, beq_eq_false_iff_ne, beq_eq_false_iff_ne]
  exact ⟨h.2 j h1 h2, h.1 j (by omega) h2⟩
theorem sought_no2 {l : List UInt8} {k j : Nat} (h : Sought l k) (h13 : ∀ (h2 : k - 1 < l.length), 0 < k → l[k - 1] ≠ 13) (h1 : j < k) (h2 : j < l.length) : crlf l[j] = false := by
  unfold crlf
  rw [Bool.or_eq_false_iff, beq_eq_false_iff_ne, beq_eq_false_iff_ne]
  refine ⟨?_, h.1 j h1 h2⟩
  by_cases hj : j + 1 < k
  · exact h.2 j hj h2
  · obtain rfl : j = k - 1 := by omega
    exact h13 h2 (by omega)
theorem drop_cons2 (l : List UInt8) (k : Nat) (h : k < l.length) : l.drop k = l[k] :: l.drop (k + 1) := (List.drop_eq_getElem_cons h)
/-- CR behind k - 1 others, and at k what is looked at. -/
theorem line_cr {l : List UInt8} {k : Nat} (h : Sought l k) (hk : 0 < k) (hm : k < l.length) (h42 : k < 4200) (h13 : l[k - 1] = 13) :
    lineR l = if l[k] = 10 then .got (l.take (k - 1)) (k + 1) else .bad := by
  have hm' : k < (l.take 4200).length := by rw [List.length_take]; omega
  have ha : ahead crlf (l.take 4200) = k - 1 := by
    refine ahead_at (by omega) (fun j hj => ?_) ?_
    · rw [List.getElem_take]; exact sought_no h (by omega) (by omega)
    · rw [List.getElem_take, h13]; rfl
  have e : (l.take 4200).drop (k - 1) = 13 :: l[k] :: (l.take 4200).drop (k + 1) := by
    rw [drop_cons2 _ (k - 1) (by omega), show k - 1 + 1 = k by omega, drop_cons2 _ k hm', List.getElem_take, List.getElem_take, h13]
  unfold lineR
  rw [ha, e, List.take_take, show min (k - 1) 4200 = k - 1 by omega, show k - 1 + 2 = k + 1 by omega]
  generalize l[k] = c
  by_cases hc : c = 10
  · subst hc; rfl
  · rw [if_neg hc]
    split
    · rename_i h; cases h
    · rename_i h; cases h
    · rename_i h; injection h with _ h; injection h with h _; exact absurd h hc
    · rfl
theorem line_lf {l : List UInt8} {k : Nat} (h : Sought l k) (hm : k < l.length) (h42 : k < 4200) (h13 : 0 < k → l[k - 1] ≠ 13) (h10 : l[k] = 10) : lineR l = .bad := by
  have hm' : k < (l.take 4200).length := by rw [List.length_take]; omega
  have ha : ahead crlf (l.take 4200) = k := by
    refine ahead_at (by omega) (fun j hj => ?_) ?_
    · rw [List.getElem_take]; exact sought_no2 h (fun _ h0 => h13 h0) hj (by omega)
    · rw [List.getElem_take, h10]; rfl
  unfold lineR
  rw [ha, drop_cons2 _ k hm', List.getElem_take, h10]
  rfl
theorem line_end {l : List UInt8} {k : Nat} (h : Sought l k) (hk : k = min l.length 4200) : lineR l = if 4200 ≤ l.length then .bad else .short := by
  have hl : (l.take 4200).length = k := by rw [List.length_take]; omega
  by_cases hc : ∃ h2 : k - 1 < l.length, 0 < k ∧ l[k - 1]'h2 = 13
  · obtain ⟨h2, h0, h13⟩ := hc
    have ha : ahead crlf (l.take 4200) = k - 1 := by
      refine ahead_at (by omega) (fun j hj => ?_) ?_
      · rw [List.getElem_take]; exact sought_no h (by omega) (by omega)
      · rw [List.getElem_take, h13]; rfl
    unfold lineR
    rw [ha, drop_cons2 _ (k - 1) (by omega), List.getElem_take, h13, List.drop_of_length_le (by omega)]
    rfl
  · have h13 : ∀ (h2 : k - 1 < l.length), 0 < k → l[k - 1]'h2 ≠ 13 := fun h2 h0 he => hc ⟨h2, h0, he⟩
    have ha : ahead crlf (l.take 4200) = k := by
      rw [← hl]
      refine ahead_full fun j hj => ?_
      rw [List.getElem_take]
      exact sought_no2 h h13 (by omega) (by omega)
    unfold lineR
    rw [ha, List.drop_of_length_le (by omega)]
theorem sought_step {l : List UInt8} {k : Nat} (h : Sought l k) (hm : k < l.length) (h13 : 0 < k → l[k - 1] ≠ 13) (h10 : l[k] ≠ 10) : Sought l (k + 1) := by
  refine ⟨fun j h1 h2 => ?_, fun j h1 h2 => ?_⟩
  · by_cases e : j = k
    · subst e; exact h10
    · exact h.1 j (by omega) h2
  · by_cases e : j + 1 = k
    · obtain rfl : j = k - 1 := by omega
      exact h13 (by omega)
    · exact h.2 j (by omega) h2
end Go.Proofs.YtenhgjpoigkdgaaGreatDoor.Lw
