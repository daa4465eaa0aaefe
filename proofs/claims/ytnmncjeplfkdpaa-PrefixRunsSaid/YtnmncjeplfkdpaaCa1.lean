/- Package recent, plain: the ring's nodes by their places; keys in order. No program, no condition. -/
import Derived.Test.YtnmncjeplfkdpaaProg
namespace Go.Proofs.Ytnmncjeplfkdpaa.Ca
/-- A ring's links: their blocks, their keys; the one used longest ago first. -/
abbrev Lk := List (Nat × ByteArray)
/-- The block of the i-th node of the ring: 0 is that of no key, as is whatever lies behind the last one. -/
def nd (E : Nat) (L : Lk) (i : Nat) : Nat := if i = 0 then E else ((L[i - 1]?).map (·.1)).getD E
theorem nd_zero (E : Nat) (L : Lk) : nd E L 0 = E := rfl
theorem nd_succ {E : Nat} {L : Lk} {i : Nat} (h : i < L.length) : nd E L (i + 1) = L[i].1 := by
  unfold nd
  rw [if_neg (by omega), Nat.add_sub_cancel, List.getElem?_eq_getElem h]; rfl
theorem nd_end {E : Nat} {L : Lk} {i : Nat} (h : L.length < i) : nd E L i = E := by
  unfold nd
  split
  · rfl
  · rw [List.getElem?_eq_none (by omega)]; rfl
theorem nd_append {E : Nat} {L : Lk} {p : Nat × ByteArray} {i : Nat} (h : i ≤ L.length) : nd E (L ++ [p]) i = nd E L i := by
  unfold nd
  split
  · rfl
  · rw [List.getElem?_append_left (by omega)]
theorem nd_append_last {E : Nat} {L : Lk} {p : Nat × ByteArray} : nd E (L ++ [p]) (L.length + 1) = p.1 := by
  unfold nd
  rw [if_neg (by omega), Nat.add_sub_cancel, List.getElem?_append_right (Nat.le_refl _)]
  simp
theorem nd_erase {E : Nat} {L : Lk} {j i : Nat} : nd E (L.eraseIdx j) i = if i ≤ j then nd E L i else nd E L (i + 1) := by
  unfold nd
  by_cases h0 : i = 0
  · subst h0; simp
  · rw [if_neg h0, List.getElem?_eraseIdx]
    by_cases h1 : i ≤ j
    · rw [if_pos (by omega), if_pos h1, if_neg h0]
    · rw [if_neg (by omega), if_neg h1, if_neg (by omega), show i - 1 + 1 = i + 1 - 1 by omega]
/-- The keys without one. -/
def dropK (k : ByteArray) (l : List ByteArray) : List ByteArray := l.filter fun x => !decide (x = k)
/-- .. with one as the last one. -/
def touchK (k : ByteArray) (l : List ByteArray) : List ByteArray := dropK k l ++ [k]
/-- The first one but one. -/
def oldK (but : ByteArray) (l : List ByteArray) : Option ByteArray := l.find? fun x => !decide (x = but)
/-- Is a key there? -/
def inK (k : ByteArray) (l : List ByteArray) : Bool := l.any fun x => decide (x = k)
theorem inK_iff {k : ByteArray} {l : List ByteArray} : inK k l = true ↔ k ∈ l := by
  unfold inK
  rw [List.any_eq_true]
  constructor
  · rintro ⟨x, hx, e⟩
    exact of_decide_eq_true e ▸ hx
  · exact fun h => ⟨k, h, decide_eq_true rfl⟩
theorem inK_false {k : ByteArray} {l : List ByteArray} : inK k l = false ↔ k ∉ l := by
  rw [← inK_iff, Bool.not_eq_true]
theorem dropK_none {k : ByteArray} {l : List ByteArray} (h : k ∉ l) : dropK k l = l :=
  List.filter_eq_self.2 fun x hx => by
    have : x ≠ k := fun e => h (e ▸ hx)
    simp [this]
theorem dropK_len (k : ByteArray) (l : List ByteArray) : (dropK k l).length < l.length ↔ k ∈ l := by
  constructor
  · intro h
    exact Classical.byContradiction fun hn => by rw [dropK_none hn] at h; omega
  · intro h
    have h1 := List.length_filter_le (fun x => !decide (x = k)) l
    rcases Nat.lt_or_eq_of_le h1 with h2 | h2
    · exact h2
    · have := List.length_filter_eq_length_iff.1 h2 k h
      simp at this
theorem mem_dropK {k x : ByteArray} {l : List ByteArray} : x ∈ dropK k l ↔ x ∈ l ∧ x ≠ k := by simp [dropK]
theorem dropK_nodup {k : ByteArray} {l : List ByteArray} (h : l.Nodup) : (dropK k l).Nodup := h.filter _
theorem touchK_nodup {k : ByteArray} {l : List ByteArray} (h : l.Nodup) : (touchK k l).Nodup := by
  unfold touchK
  rw [List.nodup_append]
  refine ⟨dropK_nodup h, by simp, fun a ha b hb e => ?_⟩
  simp only [List.mem_singleton] at hb
  exact (mem_dropK.1 ha).2 (by rw [e, hb])
/-- Where keys stand once, to drop one is to strike its place. -/
theorem dropK_erase : ∀ {L : List ByteArray} (_h : L.Nodup) {j : Nat} (hj : j < L.length), dropK L[j] L = L.eraseIdx j
  | [], _, j, hj => absurd hj (Nat.not_lt_zero _)
  | x :: r, h, 0, hj => by
    have hx : x ∉ r := (List.nodup_cons.1 h).1
    show List.filter _ (x :: r) = r
    rw [List.filter_cons_of_neg (by simp)]
    exact dropK_none hx
  | x :: r, h, j + 1, hj => by
    have hx := List.nodup_cons.1 h
    have hjr : j < r.length := by simpa using hj
    have hne : x ≠ r[j] := fun e => hx.1 (e ▸ List.getElem_mem hjr)
    show List.filter _ (x :: r) = x :: r.eraseIdx j
    rw [List.filter_cons_of_pos (by simpa using hne)]
    exact congrArg _ (dropK_erase hx.2 hjr)
theorem map_erase : ∀ (L : Lk) (j : Nat), (L.eraseIdx j).map (·.2) = (L.map (·.2)).eraseIdx j
  | [], _ => rfl
  | _ :: _, 0 => rfl
  | x :: r, j + 1 => congrArg (x.2 :: ·) (map_erase r j)
end Go.Proofs.Ytnmncjeplfkdpaa.Ca
