/- Layer 14, plain: who leaves; how many rows were theirs alone; an example's bound. No condition. -/
import Derived.Test.YtkpcobaklbfpcaaKs2
import Derived.Test.YtkpcobaklbfpcaaSp9
namespace Go.Proofs.Ytkpcobaklbfpcaa.Ka
set_option linter.unusedVariables false
set_option linter.unusedSimpArgs false
open Go.ChangeShapes Go.WideShapes Go.ChangeAt Go.RowKit
open Sp (Th Hp Stays All Ro roT cellsT rowT exT puT star mapT setG Sl rngL)
theorem leave_ids {A B : Rows} {k : ByteArray} {ids : List Int} (h : Ok (A ++ (k, ids) :: B)) (n : Int) : idsR k (dropR n (A ++ (k, ids) :: B)) = lessI n ids := by
  have hm := h.mid
  have hA : k ∉ keysL (dropR n A) := fun hx => hm.a ((drop_sub n A).subset hx)
  have hB : k ∉ keysL (dropR n B) := fun hx => hm.b ((drop_sub n B).subset hx)
  rw [drop_app, drop_cons]
  unfold cutR
  by_cases he : lessI n ids = []
  · rw [if_pos he, List.nil_append, he]
    refine ids_none fun hx => ?_
    unfold keysL at hx hA hB
    rw [List.map_append] at hx
    rcases List.mem_append.1 hx with hx | hx
    · exact hA hx
    · exact hB hx
  · rw [if_neg he]
    exact ids_mid (A := dropR n A) (B := dropR n B) ⟨hA, hB⟩
theorem leave_out {S : Rows} {k : ByteArray} (n : Int) (h : k ∉ keysL S) : idsR k (dropR n S) = [] := ids_none fun hx => h ((drop_sub n S).subset hx)
/-- How many of the rows that were come by were a number's alone. -/
def aloneN (n : Int) (lf : ByteArray → Bool) (S : Rows) : Nat := (S.filter fun r => !lf r.1 && decide (lessI n r.2 = [])).length
theorem alone_start (n : Int) (S : Rows) (lf : ByteArray → Bool) (h : ∀ k ∈ keysL S, lf k = true) : aloneN n lf S = 0 := by
  unfold aloneN
  rw [List.length_eq_zero_iff, List.filter_eq_nil_iff]
  intro r hr
  rw [h r.1 (List.mem_map_of_mem hr)]
  simp
theorem alone_le (n : Int) (S : Rows) (lf : ByteArray → Bool) : aloneN n lf S ≤ S.length := List.length_filter_le _ _
theorem alone_step {n : Int} {lf : ByteArray → Bool} {A B : Rows} {k : ByteArray} {ids : List Int} (h : Mid k A B) (hk : lf k = true) : aloneN n (fun z => lf z && !decide (z = k)) (A ++ (k, ids) :: B) = aloneN n lf (A ++ (k, ids) :: B) + (if lessI n ids = [] then 1 else 0) := by
  have key : ∀ C : Rows, k ∉ keysL C → (C.filter fun r => !(lf r.1 && !decide (r.1 = k)) && decide (lessI n r.2 = [])) = C.filter fun r => !lf r.1 && decide (lessI n r.2 = []) := fun C hC => List.filter_congr fun r hr => by
    have : r.1 ≠ k := fun e => hC (by rw [← e]; exact List.mem_map_of_mem hr)
    rw [decide_eq_false this]
    simp
  unfold aloneN
  rw [List.filter_append, List.filter_append, List.length_append, List.length_append, key A h.a, List.filter_cons, List.filter_cons, key B h.b]
  simp only [hk]
  by_cases he : lessI n ids = []
  · simp [he]; omega
  · simp [he]
theorem alone_end (n : Int) (S : Rows) (lf : ByteArray → Bool) (h : ∀ k, lf k = false) : aloneN n lf S + (dropR n S).length = S.length := by
  unfold aloneN
  induction S with
  | nil => rfl
  | cons r S ih =>
    rw [drop_cons, List.length_append, List.filter_cons]
    unfold cutR
    simp only [h] at ih ⊢
    by_cases he : lessI n r.2 = []
    · simp only [he, decide_true, Bool.not_false, Bool.and_self, if_true, List.length_cons, List.length_nil]
      simp only [Bool.not_false, Bool.true_and] at ih ⊢
      omega
    · simp only [he, decide_false, Bool.and_false, if_false, List.length_cons, List.length_nil]
      simp only [Bool.not_false, Bool.true_and] at ih ⊢
      simp only [Bool.false_eq_true, if_false] at *
      omega
/-- All numbers of the rows are those of acts from a place on. -/
def From (L : List Ac) (j : Nat) (S : Rows) : Prop := ∀ r ∈ S, ∀ x ∈ r.2, ∃ i, j ≤ i ∧ ∃ h : i < L.length, L[i].n = x
theorem From.nil (L : List Ac) (j : Nat) : From L j [] := fun _ h => (nomatch h)
theorem From.sub {L : List Ac} {j : Nat} {S A : Rows} (h : From L j S) (hs : List.Sublist A S) : From L j A := fun r hr => h r (hs.subset hr)
theorem From.add {L : List Ac} {S : Rows} (h : From L 0 S) (k : ByteArray) {i : Nat} (hi : i < L.length) : From L 0 (addR k L[i].n S) := fun r hr x hx => by
  unfold addR at hr
  split at hr
  · obtain ⟨q, hq, rfl⟩ := List.mem_map.1 hr
    split at hx
    · rcases mem_with.1 hx with e | hx
      · exact ⟨i, Nat.zero_le _, hi, e.symm⟩
      · exact h q hq x hx
    · exact h q hq x hx
  · rcases List.mem_append.1 hr with hr | hr
    · exact h r hr x hx
    · rw [List.mem_singleton.1 hr] at hx
      exact ⟨i, Nat.zero_le _, hi, (List.mem_singleton.1 hx).symm⟩
theorem From.drop {L : List Ac} {j : Nat} {S : Rows} (h : From L j S) (n : Int) : From L j (dropR n S) := fun r hr x hx => by
  obtain ⟨-, q, hq, rfl⟩ := mem_drop hr
  exact h q hq x (mem_less.1 hx).1
theorem From.next {L : List Ac} {j : Nat} {S : Rows} (h : From L j S) (hj : j < L.length) : From L (j + 1) (dropR L[j].n S) := fun r hr x hx => by
  obtain ⟨-, q, hq, rfl⟩ := mem_drop hr
  obtain ⟨hx1, hx2⟩ := mem_less.1 hx
  obtain ⟨i, hi, hl, e⟩ := h q hq x hx1
  refine ⟨i, ?_, hl, e⟩
  rcases Nat.lt_or_eq_of_le hi with hi | hi
  · exact hi
  · subst hi; exact absurd e.symm hx2
theorem From.done {L : List Ac} {S : Rows} (h : From L L.length S) (hok : Ok S) : S = [] := by
  cases S with
  | nil => rfl
  | cons r S =>
    have hr := hok.ne r (List.mem_cons_self ..)
    cases he : r.2 with
    | nil => exact absurd he hr
    | cons x l =>
      obtain ⟨i, hi, hl, -⟩ := h r (List.mem_cons_self ..) x (by rw [he]; exact List.mem_cons_self ..)
      omega
theorem room_le {m : Nat} {k : ByteArray} {S : Rows} (hm : 1 ≤ m) (h : S.length ≤ m) (n : Int) : (addR k n (roomR m k S)).length ≤ m := by
  by_cases hin : k ∈ keysL S
  · rw [(full_in hin).2.1, add_len, Ca.inK_iff.2 hin]
    simpa using h
  · by_cases hl : S.length < m
    · rw [(full_no hl).2.1, add_len]
      split <;> omega
    · cases S with
      | nil => simp at h hl; omega
      | cons r S =>
        rw [(full_yes hin (by simp at hl; omega)).2.1, add_len]
        simp only [List.length_cons] at h
        split <;> omega
end Go.Proofs.Ytkpcobaklbfpcaa.Ka
