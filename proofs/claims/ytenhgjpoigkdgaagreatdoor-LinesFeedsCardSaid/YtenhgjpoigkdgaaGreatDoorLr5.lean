/- Plain facts, of no program: the words of a line from a place on, one step each. No condition. -/
import Derived.Test.YtenhgjpoigkdgaaGreatDoorLw1
namespace Go.Proofs.YtenhgjpoigkdgaaGreatDoor.Lw
theorem dropc {l : List UInt8} {k : Nat} (h : k < l.length) : l.drop k = l[k] :: l.drop (k + 1) := List.drop_eq_getElem_cons h
theorem w_bare (w : List UInt8) (out : List (List UInt8)) (c : UInt8) (r : List UInt8) : wrun (.bare w out) (c :: r) = if gap c then wrun (.gap (out ++ [w])) r else wrun (.bare (w ++ [c]) out) r := by rw [wrun]
theorem w_bare0 (w : List UInt8) (out : List (List UInt8)) : wrun (.bare w out) [] = check (out ++ [w]) := by rw [wrun]
variable {l W : List UInt8} {k : Nat} {L : List (List UInt8)} {o : Option (List (List UInt8))} {m : UInt8}
theorem g_gap (h : wrun (.gap L) (l.drop k) = o) (hk : k < l.length) (hg : gap l[k] = true) : wrun (.gap L) (l.drop (k + 1)) = o := by
  rw [dropc hk, w_gap, if_pos hg] at h; exact h
theorem g_mark (h : wrun (.gap L) (l.drop k) = o) (hk : k < l.length) (hm : l[k] = 34 ∨ l[k] = 39) : wrun (.marked l[k] [] L) (l.drop (k + 1)) = o := by
  rw [dropc hk, wrun_mark _ _ _ hm] at h; exact h
theorem g_bare (h : wrun (.gap L) (l.drop k) = o) (hk : k < l.length) (hg : gap l[k] = false) (h1 : l[k] ≠ 34) (h2 : l[k] ≠ 39) : wrun (.bare [l[k]] L) (l.drop (k + 1)) = o := by
  rw [dropc hk, w_gap, if_neg (by simp [hg]), if_neg (by simp [h1, h2])] at h; exact h
theorem b_gap (h : wrun (.bare W L) (l.drop k) = o) (hk : k < l.length) (hg : gap l[k] = true) : wrun (.gap (L ++ [W])) (l.drop (k + 1)) = o := by
  rw [dropc hk, w_bare, if_pos hg] at h; exact h
theorem b_byte (h : wrun (.bare W L) (l.drop k) = o) (hk : k < l.length) (hg : gap l[k] = false) : wrun (.bare (W ++ [l[k]]) L) (l.drop (k + 1)) = o := by
  rw [dropc hk, w_bare, if_neg (by simp [hg])] at h; exact h
theorem a_gap (h : wrun (.after L) (l.drop k) = o) (hk : k < l.length) (hg : gap l[k] = true) : wrun (.gap L) (l.drop (k + 1)) = o := by
  rw [dropc hk, w_after, if_pos hg] at h; exact h
theorem a_bad (h : wrun (.after L) (l.drop k) = o) (hk : k < l.length) (hg : gap l[k] = false) : o = none := by
  rw [dropc hk, w_after, if_neg (by simp [hg])] at h; exact h.symm
theorem m_end (h : wrun (.marked m W L) (l.drop k) = o) (hk : k < l.length) (hm : l[k] = m) : wrun (.after (L ++ [W])) (l.drop (k + 1)) = o := by
  rw [dropc hk, hm, marked_end] at h; exact h
theorem m_byte (h : wrun (.marked m W L) (l.drop k) = o) (hk : k < l.length) (hm : l[k] ≠ m) (h2 : l[k] ≠ 92 ∨ l.length ≤ k + 1 ∨ m = 39 ∧ ∀ h1 : k + 1 < l.length, l[k + 1] ≠ 39) : wrun (.marked m (W ++ [l[k]]) L) (l.drop (k + 1)) = o := by
  rw [dropc hk, marked_byte _ _ _ _ _ hm ?_] at h
  · exact h
  · rcases h2 with h2 | h2 | ⟨h2, h3⟩
    · exact .inl h2
    · exact .inr (.inl (List.drop_of_length_le h2))
    · rcases Nat.lt_or_ge (k + 1) l.length with h1 | h1
      · refine .inr (.inr ⟨h2, ?_⟩)
        rw [dropc h1]
        intro e
        exact h3 h1 (Option.some.inj e)
      · exact .inr (.inl (List.drop_of_length_le h1))
theorem m_apo (h : wrun (.marked m W L) (l.drop k) = o) (hm : m = 39) (hk : k + 1 < l.length) (h1 : l[k] = 92) (h2 : l[k + 1] = 39) : wrun (.marked m (W ++ [39]) L) (l.drop (k + 2)) = o := by
  subst hm
  rw [dropc (by omega), dropc hk, h1, h2, marked_apo] at h; exact h
theorem m_esc (h : wrun (.marked m W L) (l.drop k) = o) (hm : m = 34) (hk : k + 1 < l.length) (h1 : l[k] = 92) : wrun (.marked m (W ++ [(esc l[k + 1] (l.drop (k + 2))).1]) L) (esc l[k + 1] (l.drop (k + 2))).2 = o := by
  subst hm
  rw [dropc (by omega), dropc hk, h1, marked_esc] at h; exact h
theorem m_esc1 (h : wrun (.marked m W L) (l.drop k) = o) (hm : m = 34) (hk : k + 1 < l.length) (h1 : l[k] = 92) (d : UInt8)
    (hd : l[k + 1] = 110 ∧ d = 10 ∨ l[k + 1] = 114 ∧ d = 13 ∨ l[k + 1] = 116 ∧ d = 9 ∨ (l[k + 1] ≠ 110 ∧ l[k + 1] ≠ 114 ∧ l[k + 1] ≠ 116 ∧ l[k + 1] ≠ 120) ∧ d = l[k + 1] ∨
      (l[k + 1] = 120 ∧ d = 120 ∧ (l.length ≤ k + 3 ∨ ∃ h3 : k + 3 < l.length, 16 ≤ hexN (l[k + 2]'(by omega)) ∨ 16 ≤ hexN l[k + 3]))) :
    wrun (.marked m (W ++ [d]) L) (l.drop (k + 2)) = o := by
  have h := m_esc h hm hk h1
  have e : esc l[k + 1] (l.drop (k + 2)) = (d, l.drop (k + 2)) := by
    rcases hd with ⟨h1, h2⟩ | ⟨h1, h2⟩ | ⟨h1, h2⟩ | ⟨⟨h1, h3, h4, h5⟩, h2⟩ | ⟨h1, h2, h3⟩
    · rw [h1, h2]; rfl
    · rw [h1, h2]; rfl
    · rw [h1, h2]; rfl
    · unfold esc; rw [if_neg h1, if_neg h3, if_neg h4, if_neg h5, h2]
    · rw [h1, h2]
      show escX _ = _
      rcases h3 with h3 | ⟨h3, h4⟩
      · rcases Nat.lt_or_ge (k + 2) l.length with h5 | h5
        · rw [dropc h5, List.drop_of_length_le h3]; rfl
        · rw [List.drop_of_length_le h5]; rfl
      · rw [dropc (by omega), dropc h3]
        unfold escX
        simp only
        rw [if_neg (by omega)]
  rw [e] at h
  exact h
theorem m_esc2 (h : wrun (.marked m W L) (l.drop k) = o) (hm : m = 34) (hk : k + 3 < l.length) (h1 : l[k] = 92) (h2 : l[k + 1] = 120) (h3 : hexN l[k + 2] < 16) (h4 : hexN l[k + 3] < 16) :
    wrun (.marked m (W ++ [UInt8.ofNat (16 * hexN l[k + 2] + hexN l[k + 3])]) L) (l.drop (k + 4)) = o := by
  have h := m_esc h hm (by omega) h1
  have e : esc l[k + 1] (l.drop (k + 2)) = (UInt8.ofNat (16 * hexN l[k + 2] + hexN l[k + 3]), l.drop (k + 4)) := by
    rw [h2]
    show escX _ = _
    rw [dropc (by omega), dropc hk]
    unfold escX
    simp only
    rw [if_pos ⟨h3, h4⟩]
  rw [e] at h
  exact h
theorem byte_is {x : UInt8} {n : Nat} (_hn : n < 256) (h : ((x.toNat : Int) == (n : Int)) = true) : x = UInt8.ofNat n := by
  have h1 : x.toNat = n := by have := eq_of_beq h; omega
  rw [← h1]; exact (UInt8.ofNat_toNat).symm
theorem byte_not {x : UInt8} {n : Nat} (hn : n < 256) (h : ((x.toNat : Int) == (n : Int)) = false) : x ≠ UInt8.ofNat n := by
  rintro rfl
  rw [UInt8.toNat_ofNat', Nat.mod_eq_of_lt hn] at h
  simp at h
theorem gap_yes {c : UInt8} (h : ((c.toNat : Int) == 32) = true ∨ ((c.toNat : Int) == 9) = true) : gap c = true := by
  rcases h with h | h
  · rw [byte_is (n := 32) (by omega) h]; rfl
  · rw [byte_is (n := 9) (by omega) h]; rfl
theorem gap_no {c : UInt8} (h : ((c.toNat : Int) == 32) = false) (h2 : ((c.toNat : Int) == 9) = false) : gap c = false := by
  have h1 := byte_not (n := 32) (by omega) h
  have h3 := byte_not (n := 9) (by omega) h2
  unfold gap
  simp only [Bool.or_eq_false_iff, beq_eq_false_iff_ne]
  exact ⟨h1, h3⟩
end Go.Proofs.YtenhgjpoigkdgaaGreatDoor.Lw
