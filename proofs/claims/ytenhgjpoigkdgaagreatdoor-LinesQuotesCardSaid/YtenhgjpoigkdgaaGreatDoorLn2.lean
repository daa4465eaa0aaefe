/- The walk of the law LinesAgain: true. Conditions: as XLn1's. -/
import Derived.Test.YtenhgjpoigkdgaaGreatDoorLo2
import Derived.Test.YtenhgjpoigkdgaaGreatDoorLq4
namespace Go.Proofs.YtenhgjpoigkdgaaGreatDoor.Lw
theorem check_again {out ws : List (List UInt8)} (h : check out = some ws) : check ws = some ws := by
  have e : out = ws := by
    unfold check at h
    split at h
    · injection h
    · cases h
  rw [e] at h; exact h
theorem wrun_check (st : St) (l : List UInt8) (ws : List (List UInt8)) (h : wrun st l = some ws) : check ws = some ws := by
  fun_induction wrun st l <;> first | exact check_again h | (rename_i ih; exact ih h) | (cases h) | simp_all
def tot (l : List (List UInt8)) : Nat := (l.map List.length).sum
theorem tot_app (l r : List (List UInt8)) : tot (l ++ r) = tot l + tot r := by simp [tot]
theorem tot_one (w : List UInt8) : tot [w] = w.length := by simp [tot]
def stTot : St → Nat
  | .gap out => tot out
  | .bare w out => tot out + w.length
  | .marked _ w out => tot out + w.length
  | .after out => tot out
theorem check_eq {out ws : List (List UInt8)} (h : check out = some ws) : ws = out := by
  unfold check at h
  split at h
  · injection h with h; exact h.symm
  · cases h
theorem wrun_tot (st : St) (l : List UInt8) (ws : List (List UInt8)) (h : wrun st l = some ws) : tot ws ≤ stTot st + l.length := by
  fun_induction wrun st l
  all_goals first
    | (have e := check_eq h; subst e; simp only [stTot, tot_app, tot_one, List.length_cons, List.length_nil]; omega)
    | (cases h; done)
    | (rename_i d r _ _ _ ih; have h1 := ih h; have h2 := esc_le d r; simp only [stTot, List.length_append, List.length_cons, List.length_nil] at h1 ⊢; omega)
    | (rename_i ih; have h1 := ih h; simp only [stTot, tot_app, tot_one, List.length_append, List.length_cons, List.length_nil] at h1 ⊢; omega)
theorem quote_len2 (l : List (List UInt8)) : ∀ i, (quoteFrom i l).length ≤ 3 * l.length + 4 * tot l := by
  induction l with
  | nil => intro i; simp [quoteFrom]
  | cons x l ih =>
    intro i
    have h1 := ih (i + 1)
    have h3 := qword_len x
    have h4 : (wordQ i x).length ≤ 4 * x.length + 2 := by unfold wordQ; split <;> omega
    have h5 : (if i = 0 then ([] : List UInt8) else [32]).length ≤ 1 := by split <;> simp
    have h6 : tot (x :: l) = x.length + tot l := by simp [tot]
    rw [quoteFrom, List.length_append, List.length_append, List.length_cons, h6]
    omega
theorem check_fits {ws : List (List UInt8)} (h : check ws = some ws) : ws.length ≤ 64 ∧ ∀ t ∈ ws, t.length ≤ 4096 := by
  unfold check at h
  split at h
  · rename_i h2
    simp only [Bool.and_eq_true, decide_eq_true_eq, List.all_eq_true] at h2
    refine ⟨h2.1, fun t ht => ?_⟩
    have := h2.2 t ht
    unfold fine at this
    exact of_decide_eq_true this
  · cases h
theorem again_run (ws : List (List UInt8)) (h : check ws = some ws) : wrun (.gap []) ([32, 9] ++ quoteFrom 0 ws ++ [32]) = some ws := by
  have h1 := quote_run ws [32] (by decide) 0 []
  rw [List.nil_append, h] at h1
  rw [← h1, List.append_assoc]
  show wrun (.gap []) (32 :: 9 :: (quoteFrom 0 ws ++ [32])) = _
  rw [wrun_trim, wrun_trim [] (quoteFrom 0 ws ++ [32])]
  rfl
end Go.Proofs.YtenhgjpoigkdgaaGreatDoor.Lw
namespace Go.Proofs.YtenhgjpoigkdgaaGreatDoor.Ln
open Go.ChangeShapes Go.WideShapes Go.ChangeAt Go.RowKit
end Go.Proofs.YtenhgjpoigkdgaaGreatDoor.Ln
