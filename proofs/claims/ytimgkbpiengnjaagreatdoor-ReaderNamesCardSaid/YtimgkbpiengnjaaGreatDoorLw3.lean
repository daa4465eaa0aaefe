/- Plain facts, of no program: the command with which bytes begin; more bytes behind do not turn it. No condition. -/
import Derived.Test.YtimgkbpiengnjaaGreatDoorNum
import Derived.Test.YtimgkbpiengnjaaGreatDoorLw2
namespace Go.Proofs.YtimgkbpiengnjaaGreatDoor.Lw

inductive R (α : Type) where
  | bad
  | short
  | got (x : α) (u : Nat)
def crlf (c : UInt8) : Bool := c == 13 || c == 10
/-- How many bytes stand ahead of the first that p holds of. -/
def ahead (p : UInt8 → Bool) (l : List UInt8) : Nat := (l.takeWhile fun c => !p c).length
def numR (least most : Int) (l : List UInt8) : R Int :=
  match (l.take 4200).drop (ahead crlf (l.take 4200)) with
  | [] => if 4200 ≤ l.length then .bad else .short
  | [13] => if 4200 ≤ l.length then .bad else .short
  | 13 :: 10 :: _ => if (Num.wp ((l.take 4200).take (ahead crlf (l.take 4200)))).2 = 0 ∧ least ≤ (Num.wp ((l.take 4200).take (ahead crlf (l.take 4200)))).1 ∧ (Num.wp ((l.take 4200).take (ahead crlf (l.take 4200)))).1 ≤ most
      then .got (Num.wp ((l.take 4200).take (ahead crlf (l.take 4200)))).1 (ahead crlf (l.take 4200) + 2) else .bad
  | _ => .bad
def endR {α : Type} (l : List UInt8) (x : α) (u : Nat) : R α :=
  match l with
  | [] => .short
  | [13] => .short
  | 13 :: 10 :: _ => .got x u
  | _ => .bad
def sizedR (l : List UInt8) : R (List UInt8) :=
  match l with
  | [] => .short
  | c :: r => if c = 36 then match numR 0 4096 r with
      | .bad => .bad
      | .short => .short
      | .got n u => endR (r.drop (u + n.toNat)) ((r.drop u).take n.toNat) (1 + u + n.toNat + 2)
    else .bad
def loopR : Nat → Nat → List (List UInt8) → List UInt8 → R (List (List UInt8))
  | 0, at', acc, _ => .got acc at'
  | n + 1, at', acc, l => match sizedR (l.drop at') with
    | .bad => .bad
    | .short => .short
    | .got w u => loopR n (at' + u) (acc ++ [w]) l
def countedR (l : List UInt8) : R (List (List UInt8)) :=
  match numR (-1) 64 l.tail with
  | .bad => .bad
  | .short => .short
  | .got n u => loopR n.toNat (1 + u) [] l
def isLF (c : UInt8) : Bool := c == 10
def stripCR (l : List UInt8) : List UInt8 := if l.getLast? = some 13 then l.dropLast else l
def typedR (l : List UInt8) : R (List (List UInt8)) :=
  match (l.take 4200).drop (ahead isLF (l.take 4200)) with
  | [] => if 4200 ≤ l.length then .bad else .short
  | _ :: _ => match wrun (.gap []) (stripCR ((l.take 4200).take (ahead isLF (l.take 4200)))) with
    | none => .bad
    | some ws => .got ws (ahead isLF (l.take 4200) + 1)
def parseR (l : List UInt8) : R (List (List UInt8)) := if l.head? = some 42 then countedR l else typedR l

theorem ahead_le (p : UInt8 → Bool) (l : List UInt8) : ahead p l ≤ l.length := by
  unfold ahead; exact (List.takeWhile_prefix _).length_le
theorem ahead_app {p : UInt8 → Bool} {l : List UInt8} (h : ahead p l < l.length) (q : List UInt8) : ahead p (l ++ q) = ahead p l := by
  induction l with
  | nil => simp at h
  | cons c l ih =>
    unfold ahead at *
    rw [List.cons_append, List.takeWhile_cons, List.takeWhile_cons] at *
    split
    · rename_i hc
      rw [if_pos hc] at h
      simp only [List.length_cons] at *
      rw [ih (by omega)]
    · rfl
theorem ahead_none {p : UInt8 → Bool} {l : List UInt8} (h : (l.drop (ahead p l)) = []) : ahead p l = l.length := by
  have := congrArg List.length h
  simp only [List.length_drop, List.length_nil] at this
  have := ahead_le p l
  omega
theorem take_app {l : List UInt8} (h : l.length < 4200) (q : List UInt8) : (l ++ q).take 4200 = l ++ q.take (4200 - l.length) := by
  rw [List.take_append, List.take_of_length_le (by omega)]
theorem take_long {l : List UInt8} (h : 4200 ≤ l.length) (q : List UInt8) : (l ++ q).take 4200 = l.take 4200 := List.take_append_of_le_length h

theorem numR_app (least most : Int) (l q : List UInt8) (h : numR least most l ≠ .short) : numR least most (l ++ q) = numR least most l := by
  rcases Nat.lt_or_ge l.length 4200 with hl | hl
  · have hs : ¬ 4200 ≤ l.length := by omega
    have e0 : l.take 4200 = l := List.take_of_length_le (by omega)
    unfold numR at h ⊢
    rw [e0] at h ⊢
    rw [take_app hl]
    cases hd : l.drop (ahead crlf l) with
    | nil => rw [hd] at h; simp [hs] at h
    | cons c r =>
      have hlt : ahead crlf l < l.length := by
        have := congrArg List.length hd
        simp only [List.length_drop, List.length_cons] at this
        omega
      rw [ahead_app hlt, List.drop_append_of_le_length (by omega), List.take_append_of_le_length (by omega), hd]
      rw [hd] at h
      cases r with
      | nil =>
        by_cases hc : c = 13
        · subst hc; simp [hs] at h
        · have : ∀ x : List UInt8, (match c :: x with | [] => if 4200 ≤ (l ++ q).length then R.bad else R.short | [13] => if 4200 ≤ (l ++ q).length then .bad else .short | 13 :: 10 :: _ => if (Num.wp (l.take (ahead crlf l))).2 = 0 ∧ least ≤ (Num.wp (l.take (ahead crlf l))).1 ∧ (Num.wp (l.take (ahead crlf l))).1 ≤ most then .got (Num.wp (l.take (ahead crlf l))).1 (ahead crlf l + 2) else .bad | _ => .bad) = (R.bad : R Int) := by
            intro x
            split
            · rename_i e; cases e
            · rename_i e; injection e with e _; exact absurd e hc
            · rename_i e; injection e with e _; exact absurd e hc
            · rfl
          exact (this _).trans (by split <;> first | rfl | (rename_i e; injection e with e _; exact absurd e hc) | (rename_i e; cases e))
      | cons d r =>
        show (match c :: d :: (r ++ _) with | [] => _ | [13] => _ | 13 :: 10 :: _ => _ | _ => _) = _
        by_cases hc : c = 13 ∧ d = 10
        · obtain ⟨rfl, rfl⟩ := hc; rfl
        · split
          · rename_i e; cases e
          · rename_i e; injection e with e e2; cases e2
          · rename_i e; injection e with e e2; injection e2 with e2 _; exact absurd ⟨e, e2⟩ hc
          · split
            · rename_i e; cases e
            · rename_i e; injection e with e e2; cases e2
            · rename_i e; injection e with e e2; injection e2 with e2 _; exact absurd ⟨e, e2⟩ hc
            · rfl
  · unfold numR
    rw [take_long hl]
    have : 4200 ≤ (l ++ q).length := by rw [List.length_append]; omega
    simp only [this, hl, if_true]
theorem numR_got {least most : Int} {l : List UInt8} {n : Int} {u : Nat} (h : numR least most l = .got n u) : 2 ≤ u ∧ u ≤ l.length ∧ u ≤ 4200 ∧ least ≤ n ∧ n ≤ most := by
  unfold numR at h
  split at h
  · split at h <;> cases h
  · split at h <;> cases h
  · rename_i r hd
    split at h
    · rename_i hc
      injection h with h1 h2
      have hl := congrArg List.length hd
      simp only [List.length_drop, List.length_cons, List.length_take] at hl
      refine ⟨by omega, by omega, by omega, ?_, ?_⟩
      · rw [← h1]; exact hc.2.1
      · rw [← h1]; exact hc.2.2
    · cases h
  · cases h
theorem endR_app {α : Type} (l q : List UInt8) (x : α) (u : Nat) (h : endR l x u ≠ .short) : endR (l ++ q) x u = endR l x u := by
  match l with
  | [] => exact absurd rfl h
  | [c] =>
    by_cases hc : c = 13
    · subst hc; exact absurd rfl h
    · have e1 : endR [c] x u = .bad := by
        unfold endR
        split
        · rename_i e; cases e
        · rename_i e; injection e with e _; exact absurd e hc
        · rename_i e; injection e with e _; exact absurd e hc
        · rfl
      rw [e1]
      show endR (c :: q) x u = _
      unfold endR
      split
      · rename_i e; cases e
      · rename_i e; injection e with e _; exact absurd e hc
      · rename_i e; injection e with e _; exact absurd e hc
      · rfl
  | c :: d :: r =>
    by_cases hc : c = 13 ∧ d = 10
    · obtain ⟨rfl, rfl⟩ := hc; rfl
    · have key : ∀ r, endR (c :: d :: r) x u = .bad := by
        intro r
        unfold endR
        split
        · rename_i e; cases e
        · rename_i e; injection e with e e2; cases e2
        · rename_i e; injection e with e e2; injection e2 with e2 _; exact absurd ⟨e, e2⟩ hc
        · rfl
      rw [key]
      exact key _
theorem endR_got {α : Type} {l : List UInt8} {x y : α} {u v : Nat} (h : endR l x u = .got y v) : y = x ∧ v = u ∧ 2 ≤ l.length := by
  unfold endR at h
  split at h
  · cases h
  · cases h
  · injection h with h1 h2; exact ⟨h1.symm, h2.symm, by simp⟩
  · cases h
theorem sizedR_app (l q : List UInt8) (h : sizedR l ≠ .short) : sizedR (l ++ q) = sizedR l := by
  cases l with
  | nil => exact absurd rfl h
  | cons c r =>
    show sizedR (c :: (r ++ q)) = _
    unfold sizedR at *
    simp only at *
    split
    · rename_i hc
      rw [if_pos hc] at h
      cases hn : numR 0 4096 r with
      | bad => rw [numR_app _ _ _ _ (by rw [hn]; exact fun e => by cases e), hn]
      | short => rw [hn] at h; exact absurd rfl h
      | got n u =>
        rw [numR_app _ _ _ _ (by rw [hn]; exact fun e => by cases e), hn]
        rw [hn] at h
        simp only at h ⊢
        have hg := numR_got hn
        have hlen : u + n.toNat < r.length := by
          rcases Nat.lt_or_ge (u + n.toNat) r.length with q | q
          · exact q
          · rw [List.drop_eq_nil_of_le q] at h
            exact absurd rfl h
        rw [List.drop_append_of_le_length (by omega), List.drop_append_of_le_length (by omega), List.take_append_of_le_length (by rw [List.length_drop]; omega)]
        exact endR_app _ _ _ _ h
    · rfl
theorem sizedR_got {l w : List UInt8} {u : Nat} (h : sizedR l = .got w u) : 5 ≤ u ∧ u ≤ l.length ∧ w.length ≤ 4096 := by
  unfold sizedR at h
  split at h
  · cases h
  · rename_i c r
    split at h
    · split at h
      · cases h
      · cases h
      · rename_i n u2 hn
        have hg := numR_got hn
        obtain ⟨rfl, rfl, h3⟩ := endR_got h
        rw [List.length_drop] at h3
        simp only [List.length_cons, List.length_take, List.length_drop]
        omega
    · cases h
theorem loopR_succ (n at' : Nat) (acc : List (List UInt8)) (l : List UInt8) : loopR (n + 1) at' acc l = match sizedR (l.drop at') with
    | .bad => .bad
    | .short => .short
    | .got w u => loopR n (at' + u) (acc ++ [w]) l := rfl
theorem loopR_app (l q : List UInt8) : ∀ (n at' : Nat) (acc : List (List UInt8)), at' ≤ l.length → loopR n at' acc l ≠ .short → loopR n at' acc (l ++ q) = loopR n at' acc l := by
  intro n
  induction n with
  | zero => intro at' acc _ _; rfl
  | succ n ih =>
    intro at' acc ha h
    rw [loopR_succ] at h
    rw [loopR_succ, loopR_succ, List.drop_append_of_le_length ha]
    cases hs : sizedR (l.drop at') with
    | bad => rw [sizedR_app _ _ (by rw [hs]; exact fun e => by cases e), hs]
    | short => rw [hs] at h; exact absurd rfl h
    | got w u =>
      rw [sizedR_app _ _ (by rw [hs]; exact fun e => by cases e), hs]
      rw [hs] at h
      have hg := sizedR_got hs
      rw [List.length_drop] at hg
      exact ih _ _ (by omega) h
theorem loopR_got {l : List UInt8} : ∀ {n at' : Nat} {acc ws : List (List UInt8)} {u : Nat}, at' ≤ l.length → loopR n at' acc l = .got ws u → at' ≤ u ∧ u ≤ l.length ∧ ws.length = acc.length + n ∧ (acc.all fine → ws.all fine) := by
  intro n
  induction n with
  | zero => intro at' acc ws u ha h; unfold loopR at h; injection h with h1 h2; subst h1 h2; exact ⟨Nat.le_refl _, ha, rfl, id⟩
  | succ n ih =>
    intro at' acc ws u ha h
    unfold loopR at h
    split at h
    · cases h
    · cases h
    · rename_i w u2 hs
      have hg := sizedR_got hs
      rw [List.length_drop] at hg
      obtain ⟨a, b, c, d⟩ := ih (by omega) h
      refine ⟨by omega, b, by simp at c; omega, fun hf => d ?_⟩
      rw [List.all_append, hf]
      simp [fine, hg.2.2]
theorem countedR_app (l q : List UInt8) (h0 : l ≠ []) (h : countedR l ≠ .short) : countedR (l ++ q) = countedR l := by
  cases l with
  | nil => exact absurd rfl h0
  | cons c r =>
    unfold countedR at *
    rw [List.cons_append]
    simp only [List.tail_cons] at *
    cases hn : numR (-1) 64 r with
    | bad => rw [numR_app _ _ _ _ (by rw [hn]; exact fun e => by cases e), hn]
    | short => rw [hn] at h; exact absurd rfl h
    | got n u =>
      rw [numR_app _ _ _ _ (by rw [hn]; exact fun e => by cases e), hn]
      rw [hn] at h
      have hg := numR_got hn
      exact loopR_app (c :: r) _ _ _ _ (by simp; omega) h
theorem typedR_app (l q : List UInt8) (h : typedR l ≠ .short) : typedR (l ++ q) = typedR l := by
  rcases Nat.lt_or_ge l.length 4200 with hl | hl
  · have hs : ¬ 4200 ≤ l.length := by omega
    have e0 : l.take 4200 = l := List.take_of_length_le (by omega)
    unfold typedR at h ⊢
    rw [e0] at h ⊢
    rw [take_app hl]
    cases hd : l.drop (ahead isLF l) with
    | nil => rw [hd] at h; simp [hs] at h
    | cons c r =>
      have hlt : ahead isLF l < l.length := by
        have := congrArg List.length hd
        simp only [List.length_drop, List.length_cons] at this
        omega
      rw [ahead_app hlt, List.drop_append_of_le_length (by omega), List.take_append_of_le_length (by omega), hd]
      rfl
  · unfold typedR
    rw [take_long hl]
    have : 4200 ≤ (l ++ q).length := by rw [List.length_append]; omega
    simp only [this, hl, if_true]
theorem parseR_nil : parseR [] = .short := rfl
theorem parseR_app (l q : List UInt8) (h : parseR l ≠ .short) : parseR (l ++ q) = parseR l := by
  cases l with
  | nil => exact absurd rfl h
  | cons c r =>
    unfold parseR at *
    have e : (c :: r ++ q).head? = some c := rfl
    have e2 : (c :: r).head? = some c := rfl
    rw [e]
    rw [e2] at h ⊢
    split
    · rename_i hc
      rw [if_pos hc] at h
      exact countedR_app _ _ (by simp) h
    · rename_i hc
      rw [if_neg hc] at h
      exact typedR_app _ _ h
theorem check_some {out ws : List (List UInt8)} (h : check out = some ws) : ws = out ∧ ws.length ≤ 64 ∧ ws.all fine := by
  unfold check at h
  split at h
  · rename_i hc
    injection h with h
    simp only [Bool.and_eq_true, decide_eq_true_eq] at hc
    subst h
    exact ⟨rfl, hc.1, hc.2⟩
  · cases h
theorem wrun_some : ∀ (n : Nat) (st : St) (l : List UInt8) (ws : List (List UInt8)), l.length ≤ n → wrun st l = some ws → ws.length ≤ 64 ∧ ws.all fine := by
  intro n
  induction n with
  | zero =>
    intro st l ws hl h
    obtain rfl : l = [] := List.eq_nil_of_length_eq_zero (by omega)
    cases st with
    | gap out => rw [w_gap0] at h; exact (check_some h).2
    | after out => rw [w_after0] at h; exact (check_some h).2
    | bare w out => rw [wrun] at h; exact (check_some h).2
    | marked m w out => rw [w_m0] at h; cases h
  | succ n ih =>
    intro st l ws hl h
    cases l with
    | nil =>
      cases st with
      | gap out => rw [w_gap0] at h; exact (check_some h).2
      | after out => rw [w_after0] at h; exact (check_some h).2
      | bare w out => rw [wrun] at h; exact (check_some h).2
      | marked m w out => rw [w_m0] at h; cases h
    | cons c r =>
      have hr : r.length ≤ n := by simp at hl; omega
      cases st with
      | gap out =>
        rw [w_gap] at h
        split at h
        · exact ih _ _ _ hr h
        · split at h
          · exact ih _ _ _ hr h
          · exact ih _ _ _ hr h
      | bare w out =>
        rw [wrun] at h
        split at h
        · exact ih _ _ _ hr h
        · exact ih _ _ _ hr h
      | after out =>
        rw [w_after] at h
        split at h
        · exact ih _ _ _ hr h
        · cases h
      | marked m w out =>
        cases r with
        | nil =>
          rw [w_m1] at h
          split at h
          · exact (check_some h).2
          · cases h
        | cons d r =>
          rw [w_m2] at h
          split at h
          · exact ih _ _ _ hr h
          · split at h
            · exact ih _ _ _ hr h
            · split at h
              · split at h
                · exact ih _ _ _ (by simp at hr; omega) h
                · exact ih _ _ _ hr h
              · exact ih _ _ _ (by have := esc_le d r; simp at hr; omega) h
theorem parseR_got {l : List UInt8} {ws : List (List UInt8)} {u : Nat} (h : parseR l = .got ws u) : 0 < u ∧ u ≤ l.length ∧ ws.length ≤ 64 ∧ ws.all fine := by
  unfold parseR at h
  split at h
  · rename_i hh
    cases l with
    | nil => cases hh
    | cons c r =>
      unfold countedR at h
      simp only [List.tail_cons] at h
      split at h
      · cases h
      · cases h
      · rename_i n u2 hn
        have hg := numR_got hn
        have := loopR_got (by simp; omega) h
        refine ⟨by omega, by omega, ?_, this.2.2.2 rfl⟩
        rw [this.2.2.1]
        simp; omega
  · unfold typedR at h
    split at h
    · split at h <;> cases h
    · rename_i hd
      have hl := congrArg List.length hd
      simp only [List.length_drop, List.length_cons, List.length_take] at hl
      split at h
      · cases h
      · rename_i hw
        injection h with h1 h2
        subst h1
        have := wrun_some _ _ _ _ (Nat.le_refl _) hw
        exact ⟨by omega, by omega, this.1, this.2⟩
end Go.Proofs.YtimgkbpiengnjaaGreatDoor.Lw
