/- Plain facts, of no program: all commands that bytes begin with; more bytes behind. No condition. -/
import Derived.Test.YtenhgjpoigkdgaaGreatDoorLw3
namespace Go.Proofs.YtenhgjpoigkdgaaGreatDoor.Lw
/-- All commands that bytes begin with, what is left, the error's number. -/
inductive All : List UInt8 → List (List (List UInt8)) → List UInt8 → Int → Prop
  | bad {l : List UInt8} (h : parseR l = .bad) : All l [] [] 61
  | short {l : List UInt8} (h : parseR l = .short) : All l [] l 0
  | skip {l : List UInt8} {u : Nat} {c : List (List (List UInt8))} {r : List UInt8} {e : Int} (h : parseR l = .got [] u) (k : All (l.drop u) c r e) : All l c r e
  | take {l : List UInt8} {ws : List (List UInt8)} {u : Nat} {c : List (List (List UInt8))} {r : List UInt8} {e : Int} (h : parseR l = .got ws u) (h0 : 0 < ws.length) (k : All (l.drop u) c r e) : All l (ws :: c) r e
theorem all_ex : ∀ (n : Nat) (l : List UInt8), l.length ≤ n → ∃ c r e, All l c r e := by
  intro n
  induction n with
  | zero =>
    intro l hl
    obtain rfl : l = [] := List.eq_nil_of_length_eq_zero (by omega)
    exact ⟨_, _, _, .short parseR_nil⟩
  | succ n ih =>
    intro l hl
    cases h : parseR l with
    | bad => exact ⟨_, _, _, .bad h⟩
    | short => exact ⟨_, _, _, .short h⟩
    | got ws u =>
      have hg := parseR_got h
      obtain ⟨c, r, e, hk⟩ := ih (l.drop u) (by rw [List.length_drop]; omega)
      cases ws with
      | nil => exact ⟨_, _, _, .skip h hk⟩
      | cons w ws => exact ⟨_, _, _, .take h (by simp) hk⟩
theorem All.bad_inv {l : List UInt8} {c : List (List (List UInt8))} {r : List UInt8} {e : Int} (h : All l c r e) (hp : parseR l = .bad) : c = [] ∧ r = [] ∧ e = 61 := by
  cases h with
  | bad h => exact ⟨rfl, rfl, rfl⟩
  | short h => rw [hp] at h; cases h
  | skip h k => rw [hp] at h; cases h
  | take h h0 k => rw [hp] at h; cases h
theorem All.short_inv {l : List UInt8} {c : List (List (List UInt8))} {r : List UInt8} {e : Int} (h : All l c r e) (hp : parseR l = .short) : c = [] ∧ r = l ∧ e = 0 := by
  cases h with
  | bad h => rw [hp] at h; cases h
  | short h => exact ⟨rfl, rfl, rfl⟩
  | skip h k => rw [hp] at h; cases h
  | take h h0 k => rw [hp] at h; cases h
theorem All.skip_inv {l : List UInt8} {u : Nat} {c : List (List (List UInt8))} {r : List UInt8} {e : Int} (h : All l c r e) (hp : parseR l = .got [] u) : All (l.drop u) c r e := by
  cases h with
  | bad h => rw [hp] at h; cases h
  | short h => rw [hp] at h; cases h
  | skip h k => rw [hp] at h; injection h with _ h; subst h; exact k
  | take h h0 k => rw [hp] at h; injection h with h _; subst h; simp at h0
theorem All.take_inv {l : List UInt8} {u : Nat} {ws : List (List UInt8)} {c : List (List (List UInt8))} {r : List UInt8} {e : Int} (h : All l c r e) (hp : parseR l = .got ws u) (h0 : 0 < ws.length) : ∃ c', c = ws :: c' ∧ All (l.drop u) c' r e := by
  cases h with
  | bad h => rw [hp] at h; cases h
  | short h => rw [hp] at h; cases h
  | skip h k => rw [hp] at h; injection h with h _; subst h; simp at h0
  | take h h0 k => rw [hp] at h; injection h with h1 h2; subst h1 h2; exact ⟨_, rfl, k⟩
theorem All.uniq {l : List UInt8} {c : List (List (List UInt8))} {r : List UInt8} {e : Int} (h : All l c r e) : ∀ {c' r' e'}, All l c' r' e' → c = c' ∧ r = r' ∧ e = e' := by
  induction h with
  | bad h => intro c' r' e' k; obtain ⟨rfl, rfl, rfl⟩ := k.bad_inv h; exact ⟨rfl, rfl, rfl⟩
  | short h => intro c' r' e' k; obtain ⟨rfl, rfl, rfl⟩ := k.short_inv h; exact ⟨rfl, rfl, rfl⟩
  | skip h _ ih => intro c' r' e' k; exact ih (k.skip_inv h)
  | take h h0 _ ih =>
    intro c' r' e' k
    obtain ⟨c2, rfl, k2⟩ := k.take_inv h h0
    obtain ⟨rfl, rfl, rfl⟩ := ih k2
    exact ⟨rfl, rfl, rfl⟩
theorem All.err {l : List UInt8} {c : List (List (List UInt8))} {r : List UInt8} {e : Int} (h : All l c r e) : (e = 0 ∧ parseR r = .short) ∨ (e = 61 ∧ r = []) := by
  induction h with
  | bad h => exact .inr ⟨rfl, rfl⟩
  | short h => exact .inl ⟨rfl, h⟩
  | skip h _ ih => exact ih
  | take h h0 _ ih => exact ih
theorem All.more {p : List UInt8} {c1 : List (List (List UInt8))} {r1 : List UInt8} {e1 : Int} (h : All p c1 r1 e1) (q : List UInt8) : ∀ {c2 r2 e2}, e1 = 0 → All (r1 ++ q) c2 r2 e2 → All (p ++ q) (c1 ++ c2) r2 e2 := by
  induction h with
  | bad h => intro c2 r2 e2 he; cases he
  | short h => intro c2 r2 e2 _ k; exact k
  | skip h _ ih =>
    rename_i l u c r e k0
    intro c2 r2 e2 he k
    have hg := parseR_got h
    refine .skip (u := u) ?_ ?_
    · rw [parseR_app _ _ (by rw [h]; exact fun e => by cases e), h]
    · rw [List.drop_append_of_le_length hg.2.1]
      exact ih he k
  | take h h0 _ ih =>
    rename_i l ws u c r e k0
    intro c2 r2 e2 he k
    have hg := parseR_got h
    rw [List.cons_append]
    refine .take (u := u) ?_ h0 ?_
    · rw [parseR_app _ _ (by rw [h]; exact fun e => by cases e), h]
    · rw [List.drop_append_of_le_length hg.2.1]
      exact ih he k
theorem All.more_bad {p : List UInt8} {c1 : List (List (List UInt8))} {r1 : List UInt8} {e1 : Int} (h : All p c1 r1 e1) (q : List UInt8) : e1 = 61 → All (p ++ q) c1 r1 61 := by
  induction h with
  | bad h => intro _; exact .bad (by rw [parseR_app _ _ (by rw [h]; exact fun e => by cases e), h])
  | short h => intro he; cases he
  | skip h _ ih =>
    rename_i l u c r e k0
    intro he
    have hg := parseR_got h
    refine .skip (u := u) ?_ ?_
    · rw [parseR_app _ _ (by rw [h]; exact fun e => by cases e), h]
    · rw [List.drop_append_of_le_length hg.2.1]
      exact ih he
  | take h h0 _ ih =>
    rename_i l ws u c r e k0
    intro he
    have hg := parseR_got h
    refine .take (u := u) ?_ h0 ?_
    · rw [parseR_app _ _ (by rw [h]; exact fun e => by cases e), h]
    · rw [List.drop_append_of_le_length hg.2.1]
      exact ih he
theorem All.left_le {l : List UInt8} {c : List (List (List UInt8))} {r : List UInt8} {e : Int} (h : All l c r e) : r.length + c.length ≤ l.length := by
  induction h with
  | bad h => simp
  | short h => simp
  | skip h _ ih =>
    have hg := parseR_got h
    rw [List.length_drop] at ih
    omega
  | take h h0 _ ih =>
    have hg := parseR_got h
    rw [List.length_drop] at ih
    rw [List.length_cons]
    omega
theorem All.small {l : List UInt8} {c : List (List (List UInt8))} {r : List UInt8} {e : Int} (h : All l c r e) : ∀ ws ∈ c, 0 < ws.length ∧ ws.length ≤ 64 := by
  induction h with
  | bad h => intro ws h; cases h
  | short h => intro ws h; cases h
  | skip h _ ih => exact ih
  | take h h0 _ ih =>
    intro ws hm
    rcases List.mem_cons.1 hm with rfl | hm
    · exact ⟨h0, (parseR_got h).2.2.1⟩
    · exact ih ws hm
end Go.Proofs.YtenhgjpoigkdgaaGreatDoor.Lw
