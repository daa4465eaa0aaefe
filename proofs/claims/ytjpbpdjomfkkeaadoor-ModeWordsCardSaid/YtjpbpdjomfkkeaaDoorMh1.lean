/- Plain facts of layer 13: a mode said in words. No condition. -/
import Derived.Test.YtjpbpdjomfkkeaaDoorMb7
import Derived.Test.YtjpbpdjomfkkeaaDoorMg1
namespace Go.Proofs.YtjpbpdjomfkkeaaDoor.Ma
open Go
def wds (small : Bool) : List BA := if small then [mk [111, 110], mk [98, 99, 97, 115, 116], mk [111, 112, 116, 105, 110], mk [111, 112, 116, 111, 117, 116], mk [110, 111, 108, 111, 111, 112]] else [mk [79, 78], mk [66, 67, 65, 83, 84], mk [79, 80, 84, 73, 78], mk [79, 80, 84, 79, 85, 84], mk [78, 79, 76, 79, 79, 80]]
def bsOf (small : Bool) (m : Md) : List (BA × Bool) := if small then [(mk [98, 99, 97, 115, 116], m.bc), (mk [111, 112, 116, 105, 110], m.oi), (mk [111, 112, 116, 111, 117, 116], m.oo), (mk [110, 111, 108, 111, 111, 112], m.nl)] else [(mk [66, 67, 65, 83, 84], m.bc), (mk [79, 80, 84, 73, 78], m.oi), (mk [79, 80, 84, 79, 85, 84], m.oo), (mk [78, 79, 76, 79, 79, 80], m.nl)]
def onW (small : Bool) : BA := if small then mk [111, 110] else mk [79, 78]
def preW : BA := mk [80, 114, 101, 102, 105, 120]
def pw (l : List BA) : List BA := l.flatMap fun p => [preW, p]
theorem pw_snoc (l : List BA) (p : BA) : pw (l ++ [p]) = pw l ++ [preW, p] := by simp [pw]
theorem pw_len (l : List BA) : (pw l).length = 2 * l.length := by
  induction l with
  | nil => rfl
  | cons a l ih => unfold pw at ih ⊢; simp at ih ⊢; omega
theorem run_pw : ∀ (l : List BA) (m : Md), run m (pw l) = some { m with ps := m.ps ++ l }
  | [], m => by simp [pw, run]
  | p :: l, m => by
    have e : pw (p :: l) = preW :: p :: pw l := rfl
    rw [e, run_prefix ⟨rfl, rfl, rfl, rfl⟩ rfl rfl, run_pw l]
    simp
theorem run_if1 (b : Bool) (w : BA) (m : Md) (r : List BA) (h : isW w wBcast = true) : run m ((if b then [w] else []) ++ r) = run (if b then { m with bc := true } else m) r := by
  cases b
  · rfl
  · exact run_bcast h
theorem run_if2 (b : Bool) (w : BA) (m : Md) (r : List BA) (h0 : isW w wBcast = false) (h : isW w wOptin = true) : run m ((if b then [w] else []) ++ r) = run (if b then { m with oi := true } else m) r := by
  cases b
  · rfl
  · exact run_optin h0 h
theorem run_if3 (b : Bool) (w : BA) (m : Md) (r : List BA) (h0 : isW w wBcast = false) (h1 : isW w wOptin = false) (h : isW w wOptout = true) : run m ((if b then [w] else []) ++ r) = run (if b then { m with oo := true } else m) r := by
  cases b
  · rfl
  · exact run_optout h0 h1 h
theorem run_if4 (b : Bool) (w : BA) (m : Md) (r : List BA) (h0 : isW w wBcast = false) (h1 : isW w wOptin = false) (h2 : isW w wOptout = false) (h : isW w wNoloop = true) : run m ((if b then [w] else []) ++ r) = run (if b then { m with nl := true } else m) r := by
  cases b
  · rfl
  · exact run_noloop h0 h1 h2 h
theorem holds4 (a b c d : BA) (p q r s : Bool) (l : List BA) : holds [(a, p), (b, q), (c, r), (d, s)] ++ l = (if p then [a] else []) ++ ((if q then [b] else []) ++ ((if r then [c] else []) ++ ((if s then [d] else []) ++ l))) := by
  unfold holds
  cases p <;> cases q <;> cases r <;> cases s <;> rfl
theorem run_words (small : Bool) (m : Md) (l : List BA) : run onM (holds (bsOf small m) ++ pw l) = some ⟨true, m.bc, m.oi, m.oo, m.nl, 0, l⟩ := by
  have key : ∀ p q r s : Bool, (({ (if s then { (if r then { (if q then { (if p then { onM with bc := true } else onM) with oi := true } else (if p then { onM with bc := true } else onM)) with oo := true } else (if q then { (if p then { onM with bc := true } else onM) with oi := true } else (if p then { onM with bc := true } else onM))) with nl := true } else (if r then { (if q then { (if p then { onM with bc := true } else onM) with oi := true } else (if p then { onM with bc := true } else onM)) with oo := true } else (if q then { (if p then { onM with bc := true } else onM) with oi := true } else (if p then { onM with bc := true } else onM)))) with ps := l } : Md) = ⟨true, p, q, r, s, 0, l⟩) := by
    intro p q r s
    cases p <;> cases q <;> cases r <;> cases s <;> rfl
  have hps : ∀ p q r s : Bool, (if s then { (if r then { (if q then { (if p then { onM with bc := true } else onM) with oi := true } else (if p then { onM with bc := true } else onM)) with oo := true } else (if q then { (if p then { onM with bc := true } else onM) with oi := true } else (if p then { onM with bc := true } else onM))) with nl := true } else (if r then { (if q then { (if p then { onM with bc := true } else onM) with oi := true } else (if p then { onM with bc := true } else onM)) with oo := true } else (if q then { (if p then { onM with bc := true } else onM) with oi := true } else (if p then { onM with bc := true } else onM))) : Md).ps = [] := by
    intro p q r s
    cases p <;> cases q <;> cases r <;> cases s <;> rfl
  unfold bsOf
  cases small with
  | true =>
    rw [if_pos rfl, holds4, run_if1 _ _ _ _ rfl, run_if2 _ _ _ _ rfl rfl, run_if3 _ _ _ _ rfl rfl rfl, run_if4 _ _ _ _ rfl rfl rfl rfl, run_pw, hps, List.nil_append, key]
  | false =>
    rw [if_neg (by decide), holds4, run_if1 _ _ _ _ rfl, run_if2 _ _ _ _ rfl rfl, run_if3 _ _ _ _ rfl rfl rfl, run_if4 _ _ _ _ rfl rfl rfl rfl, run_pw, hps, List.nil_append, key]
theorem parse_words (small : Bool) {m : Md} (h : RightM m) (ho : m.on = true) : parseM (onW small :: (holds (bsOf small m) ++ pw m.ps.reverse)) = ({ m with rd := 0 }, 0) := by
  have e : isW (onW small) wOn = true := by cases small <;> rfl
  rw [parseM_on' e (run_words small m _)]
  have hr := h
  unfold RightM at hr
  rw [if_pos ho] at hr
  have hall : allOf ⟨true, m.bc, m.oi, m.oo, m.nl, 0, m.ps.reverse⟩ = m.ps := by
    unfold allOf
    have hn : ¬ (m.bc = true ∧ m.ps.reverse.length = 0) := by
      rintro ⟨h1, h2⟩
      have := hr.2.1
      rw [if_pos h1] at this
      rw [List.length_reverse] at h2
      omega
    rw [if_neg hn]
    exact srt_rev (right_strict h).srtd
  refine endM_yes ?_ ?_
  · rw [hall]
    exact Md.ext' ho.symm rfl rfl rfl rfl rfl rfl
  · unfold RightM
    rw [if_pos ho]
    exact ⟨⟨by show (0 : Int) ≤ 0; omega, by show (0 : Int) ≤ 1000000000; omega⟩, hr.2⟩
theorem size_words (small : Bool) (m : Md) (ps : List BA) (h : ∀ p ∈ ps, p.size ≤ 600) : ∀ x ∈ onW small :: (holds (bsOf small m) ++ pw ps), x.size ≤ 1000000 := by
  intro x hx
  rcases List.mem_cons.1 hx with rfl | hx
  · cases small <;> (show (2 : Nat) ≤ _; omega)
  · rcases List.mem_append.1 hx with hx | hx
    · obtain ⟨q, hq, rfl⟩ := List.mem_map.1 hx
      have hq := (List.mem_filter.1 hq).1
      unfold bsOf at hq
      cases small <;> simp only [if_true, Bool.false_eq_true, if_false, List.mem_cons, List.not_mem_nil, or_false] at hq <;> rcases hq with rfl | rfl | rfl | rfl <;> first | (show (5 : Nat) ≤ _; omega) | (show (6 : Nat) ≤ _; omega)
    · obtain ⟨p, hp, hx⟩ := List.mem_flatMap.1 hx
      simp only [List.mem_cons, List.not_mem_nil, or_false] at hx
      rcases hx with rfl | rfl
      · show (6 : Nat) ≤ _; omega
      · have := h _ hp; omega
theorem bs_len (small : Bool) (m : Md) : (bsOf small m).length = 4 := by cases small <;> rfl
theorem wds_len (small : Bool) : (wds small).length = 5 := by cases small <;> rfl
theorem bs_wds (small : Bool) (m : Md) (j : Nat) (h : j < (bsOf small m).length) (h' : j + 1 < (wds small).length) : (wds small)[j + 1] = (bsOf small m)[j].1 := by
  cases small
  all_goals
    match j, h with
    | 0, _ => rfl
    | 1, _ => rfl
    | 2, _ => rfl
    | 3, _ => rfl
theorem p_off : parseM [mk [111, 102, 102]] = (zero, 0) := rfl
end Go.Proofs.YtjpbpdjomfkkeaaDoor.Ma
