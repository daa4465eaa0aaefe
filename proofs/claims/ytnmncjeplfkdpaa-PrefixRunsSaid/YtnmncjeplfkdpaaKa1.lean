/- Package keys, plain: rising numbers; rows of keys with numbers. No program, no condition. -/
import Derived.Test.YtnmncjeplfkdpaaSp4
import Derived.Test.YtnmncjeplfkdpaaCa1
namespace Go.Proofs.Ytnmncjeplfkdpaa.Ka
open Ca (inK inK_iff inK_false dropK dropK_none mem_dropK)
/-- Numbers rising, each once. -/
abbrev Up (l : List Int) : Prop := l.Pairwise (· < ·)
def loI (n : Int) (l : List Int) : List Int := l.filter fun x => decide (x < n)
def hiI (n : Int) (l : List Int) : List Int := l.filter fun x => decide (n < x)
/-- With one more. -/
def withI (n : Int) (l : List Int) : List Int := loI n l ++ n :: hiI n l
/-- Without one. -/
def lessI (n : Int) (l : List Int) : List Int := l.filter fun x => !decide (x = n)
theorem mem_less {n x : Int} {l : List Int} : x ∈ lessI n l ↔ x ∈ l ∧ x ≠ n := by simp [lessI]
theorem less_none {n : Int} {l : List Int} (h : n ∉ l) : lessI n l = l := List.filter_eq_self.2 fun x hx => by
  have : x ≠ n := fun e => h (e ▸ hx)
  simp [this]
theorem lo_all {n : Int} {l : List Int} (h : ∀ x ∈ l, x < n) : loI n l = l := List.filter_eq_self.2 fun x hx => decide_eq_true (h x hx)
theorem lo_none {n : Int} {l : List Int} (h : ∀ x ∈ l, n ≤ x) : loI n l = [] := List.filter_eq_nil_iff.2 fun x hx => by have := h x hx; simp; omega
theorem hi_all {n : Int} {l : List Int} (h : ∀ x ∈ l, n < x) : hiI n l = l := List.filter_eq_self.2 fun x hx => decide_eq_true (h x hx)
theorem hi_none {n : Int} {l : List Int} (h : ∀ x ∈ l, x ≤ n) : hiI n l = [] := List.filter_eq_nil_iff.2 fun x hx => by have := h x hx; simp; omega
theorem up_tail {x : Int} {l : List Int} (h : Up (x :: l)) : ∀ y ∈ l, x < y := (List.pairwise_cons.1 h).1
/-- Where a number stands: those below it, and those above. -/
theorem split_in : ∀ {l : List Int} {n : Int}, Up l → n ∈ l → l = loI n l ++ n :: hiI n l
  | [], _, _, h => by cases h
  | x :: r, n, hu, h => by
    have ht := up_tail hu
    have hr := (List.pairwise_cons.1 hu).2
    rcases List.mem_cons.1 h with e | h
    · subst e
      have h1 : loI n r = [] := lo_none fun y hy => Int.le_of_lt (ht y hy)
      have h2 : hiI n r = r := hi_all ht
      unfold loI hiI at *
      rw [List.filter_cons_of_neg (by simp), List.filter_cons_of_neg (by simp), h1, h2]; rfl
    · have hx := ht n h
      have ih := split_in hr h
      unfold loI hiI at *
      rw [List.filter_cons_of_pos (by simpa using hx), List.filter_cons_of_neg (by simp; omega)]
      exact congrArg (x :: ·) ih
theorem split_out : ∀ {l : List Int} {n : Int}, Up l → n ∉ l → l = loI n l ++ hiI n l
  | [], _, _, _ => rfl
  | x :: r, n, hu, h => by
    have ht := up_tail hu
    have hr := (List.pairwise_cons.1 hu).2
    have hn : x ≠ n := fun e => h (e ▸ List.mem_cons_self ..)
    have hm : n ∉ r := fun e => h (List.mem_cons_of_mem _ e)
    by_cases hx : x < n
    · have ih := split_out hr hm
      unfold loI hiI at *
      rw [List.filter_cons_of_pos (by simpa using hx), List.filter_cons_of_neg (by simp; omega)]
      exact congrArg (x :: ·) ih
    · have h1 : loI n r = [] := lo_none fun y hy => by have := ht y hy; omega
      have h2 : hiI n r = r := hi_all fun y hy => by have := ht y hy; omega
      unfold loI hiI at *
      rw [List.filter_cons_of_neg (by simpa using hx), List.filter_cons_of_pos (by simp; omega), h1, h2]; rfl
theorem with_in {l : List Int} {n : Int} (hu : Up l) (h : n ∈ l) : withI n l = l := (split_in hu h).symm
theorem less_in {l : List Int} {n : Int} (hu : Up l) (h : n ∈ l) : lessI n l = loI n l ++ hiI n l := by
  have e := split_in hu h
  have h1 : lessI n (loI n l) = loI n l := less_none fun hm => by
    have := (List.mem_filter.1 hm).2; simp at this
  have h2 : lessI n (hiI n l) = hiI n l := less_none fun hm => by
    have := (List.mem_filter.1 hm).2; simp at this
  conv => lhs; rw [e]
  unfold lessI at *
  rw [List.filter_append, List.filter_cons_of_neg (by simp), h1, h2]
theorem with_len {l : List Int} {n : Int} (hu : Up l) : (withI n l).length ≤ l.length + 1 := by
  by_cases h : n ∈ l
  · rw [with_in hu h]; omega
  · have := congrArg List.length (split_out hu h)
    unfold withI
    rw [List.length_append] at this ⊢
    rw [List.length_cons]; omega
theorem mem_with {l : List Int} {n x : Int} : x ∈ withI n l ↔ x = n ∨ x ∈ l := by
  unfold withI loI hiI
  rw [List.mem_append, List.mem_cons, List.mem_filter, List.mem_filter, decide_eq_true_eq, decide_eq_true_eq]
  constructor
  · rintro (h | h | h)
    · exact .inr h.1
    · exact .inl h
    · exact .inr h.1
  · rintro (h | h)
    · exact .inr (.inl h)
    · rcases Int.lt_trichotomy x n with g | g | g
      · exact .inl ⟨h, g⟩
      · exact .inr (.inl g)
      · exact .inr (.inr ⟨h, g⟩)
theorem up_with {l : List Int} {n : Int} (hu : Up l) : Up (withI n l) := by
  unfold withI Up
  rw [List.pairwise_append, List.pairwise_cons]
  refine ⟨hu.filter _, ⟨fun x hx => of_decide_eq_true (List.mem_filter.1 hx).2, hu.filter _⟩, fun x hx y hy => ?_⟩
  have h1 : x < n := of_decide_eq_true (List.mem_filter.1 hx).2
  rcases List.mem_cons.1 hy with e | hy
  · omega
  · have : n < y := of_decide_eq_true (List.mem_filter.1 hy).2
    omega
theorem up_less {l : List Int} {n : Int} (hu : Up l) : Up (lessI n l) := hu.filter _
theorem less_len (n : Int) (l : List Int) : (lessI n l).length ≤ l.length := List.length_filter_le _ _
theorem up_le {l : List Int} (hu : Up l) : l.Pairwise (· ≤ ·) := hu.imp fun h => Int.le_of_lt h
theorem lo_count (n : Int) (l : List Int) : l.countP (· < n) = (loI n l).length := by
  unfold loI; exact List.countP_eq_length_filter
/-- The numbers up to a place, in order of the document's walk. -/
theorem with_take {l : List Int} {n : Int} {j : Nat} (hj : j < l.length) : loI n (l.take (j + 1)) = loI n (l.take j) ++ (if l[j] < n then [l[j]] else []) ∧ hiI n (l.take (j + 1)) = hiI n (l.take j) ++ (if n < l[j] then [l[j]] else []) ∧ lessI n (l.take (j + 1)) = lessI n (l.take j) ++ (if l[j] = n then [] else [l[j]]) := by
  rw [← List.take_append_getElem hj]
  refine ⟨?_, ?_, ?_⟩
  · unfold loI
    rw [List.filter_append]
    by_cases h : l[j] < n
    · rw [if_pos h, List.filter_cons_of_pos (by simpa using h)]; rfl
    · rw [if_neg h, List.filter_cons_of_neg (by simpa using h)]; rfl
  · unfold hiI
    rw [List.filter_append]
    by_cases h : n < l[j]
    · rw [if_pos h, List.filter_cons_of_pos (by simpa using h)]; rfl
    · rw [if_neg h, List.filter_cons_of_neg (by simpa using h)]; rfl
  · unfold lessI
    rw [List.filter_append]
    by_cases h : l[j] = n
    · rw [if_pos h, List.filter_cons_of_neg (by simpa using h)]; rfl
    · rw [if_neg h, List.filter_cons_of_pos (by simpa using h)]; rfl
/-! Keys that each stand for something. -/
section
variable {α : Type}
def lookL (L : List (ByteArray × α)) (k : ByteArray) : Option α := (L.find? fun p => decide (p.1 = k)).map (·.2)
def keysL (L : List (ByteArray × α)) : List ByteArray := L.map (·.1)
theorem look_none {L : List (ByteArray × α)} {k : ByteArray} (h : k ∉ keysL L) : lookL L k = none := by
  unfold lookL
  rw [Option.map_eq_none_iff, List.find?_eq_none]
  intro p hp e
  exact h (by rw [← of_decide_eq_true e]; exact List.mem_map_of_mem hp)
theorem look_app {A B : List (ByteArray × α)} {k : ByteArray} (h : k ∉ keysL A) : lookL (A ++ B) k = lookL B k := by
  unfold lookL
  rw [List.find?_append]
  have : A.find? (fun p => decide (p.1 = k)) = none := by
    rw [List.find?_eq_none]
    intro p hp e
    exact h (by rw [← of_decide_eq_true e]; exact List.mem_map_of_mem hp)
  rw [this]; rfl
theorem look_cons {p : ByteArray × α} {B : List (ByteArray × α)} {k : ByteArray} : lookL (p :: B) k = if p.1 = k then some p.2 else lookL B k := by
  unfold lookL
  rw [List.find?_cons]
  by_cases h : p.1 = k
  · rw [decide_eq_true h, if_pos h]; rfl
  · rw [decide_eq_false h, if_neg h]
theorem look_in {A B : List (ByteArray × α)} {k : ByteArray} (h : k ∈ keysL A) : lookL (A ++ B) k = lookL A k := by
  unfold lookL
  rw [List.find?_append]
  cases e : A.find? (fun p => decide (p.1 = k)) with
  | none =>
    obtain ⟨p, hp, rfl⟩ := List.mem_map.1 h
    have := List.find?_eq_none.1 e p hp
    simp at this
  | some p => rfl
structure Mid (k : ByteArray) (A B : List (ByteArray × α)) : Prop where
  a : k ∉ keysL A
  b : k ∉ keysL B
theorem mid_of {A B : List (ByteArray × α)} {k : ByteArray} {x : α} (h : (keysL (A ++ (k, x) :: B)).Nodup) : Mid k A B := by
  unfold keysL at h
  rw [List.map_append, List.map_cons] at h
  obtain ⟨h1, h2, h3⟩ := List.nodup_append.1 h
  exact ⟨fun hm => h3 k hm k (List.mem_cons_self ..) rfl, (List.nodup_cons.1 h2).1⟩
theorem look_mid {A B : List (ByteArray × α)} {k : ByteArray} (h : Mid k A B) (x : α) : lookL (A ++ (k, x) :: B) k = some x := by rw [look_app h.a, look_cons, if_pos rfl]
theorem set_mid {A B : List (ByteArray × α)} {k : ByteArray} (h : Mid k A B) (x y : α) : Sp.setG (lookL (A ++ (k, x) :: B)) k (some y) = lookL (A ++ (k, y) :: B) := by
  funext z
  unfold Sp.setG
  by_cases e : z = k
  · rw [if_pos e, e, look_mid h]
  · rw [if_neg e]
    by_cases hA : z ∈ keysL A
    · rw [look_in hA, look_in hA]
    · rw [look_app hA, look_app hA, look_cons, look_cons, if_neg (Ne.symm e), if_neg (Ne.symm e)]
theorem set_del {A B : List (ByteArray × α)} {k : ByteArray} (h : Mid k A B) (x : α) : Sp.setG (lookL (A ++ (k, x) :: B)) k none = lookL (A ++ B) := by
  funext z
  unfold Sp.setG
  by_cases e : z = k
  · rw [if_pos e, e, look_app h.a, look_none h.b]
  · rw [if_neg e]
    by_cases hA : z ∈ keysL A
    · rw [look_in hA, look_in hA]
    · rw [look_app hA, look_app hA, look_cons, if_neg (Ne.symm e)]
theorem set_new {L : List (ByteArray × α)} {k : ByteArray} (h : k ∉ keysL L) (y : α) : Sp.setG (lookL L) k (some y) = lookL (L ++ [(k, y)]) := by
  funext z
  unfold Sp.setG
  by_cases e : z = k
  · rw [if_pos e, e, look_app h, look_cons, if_pos rfl]
  · rw [if_neg e]
    by_cases hA : z ∈ keysL L
    · rw [look_in hA]
    · rw [look_app hA, look_none hA, look_cons, if_neg (Ne.symm e)]; rfl
theorem set_none {L : List (ByteArray × α)} {k : ByteArray} (h : k ∉ keysL L) : Sp.setG (lookL L) k none = lookL L := by
  funext z
  unfold Sp.setG
  by_cases e : z = k
  · rw [if_pos e, e, look_none h]
  · rw [if_neg e]
theorem key_split {L : List (ByteArray × α)} {k : ByteArray} (h : k ∈ keysL L) : ∃ A x B, L = A ++ (k, x) :: B := by
  obtain ⟨p, hp, rfl⟩ := List.mem_map.1 h
  obtain ⟨A, B, e⟩ := List.append_of_mem hp
  exact ⟨A, p.2, B, e⟩
end
/-- Rows: keys in the order in which they came, each with numbers. -/
abbrev Rows := List (ByteArray × List Int)
/-- The row that goes to make room. -/
def fullR (m : Nat) (k : ByteArray) (S : Rows) : Bool := !inK k (keysL S) && decide (m ≤ S.length)
def roomR (m : Nat) (k : ByteArray) (S : Rows) : Rows := if fullR m k S then S.tail else S
def addR (k : ByteArray) (n : Int) (S : Rows) : Rows := if inK k (keysL S) then S.map (fun r => if r.1 = k then (r.1, withI n r.2) else r) else S ++ [(k, [n])]
def takeR (k : ByteArray) (S : Rows) : Rows := S.filter fun r => !decide (r.1 = k)
def idsR (k : ByteArray) (S : Rows) : List Int := (lookL S k).getD []
def dropR (n : Int) (S : Rows) : Rows := (S.map fun r => (r.1, lessI n r.2)).filter fun r => decide (r.2 ≠ [])
/-- What rows are. -/
structure Ok (S : Rows) : Prop where
  nd : (keysL S).Nodup
  up : ∀ r ∈ S, Up r.2
  ne : ∀ r ∈ S, r.2 ≠ []
  wf : ∀ r ∈ S, ∀ x ∈ r.2, (Lit.int .i64 x).wf = true
  ks : ∀ r ∈ S, r.1.size ≤ maxLen
theorem map_mid {A B : Rows} {k : ByteArray} {l : List Int} (h : Mid k A B) (f : List Int → List Int) : (A ++ (k, l) :: B).map (fun r => if r.1 = k then (r.1, f r.2) else r) = A ++ (k, f l) :: B := by
  have key : ∀ C : Rows, k ∉ keysL C → C.map (fun r => if r.1 = k then (r.1, f r.2) else r) = C := fun C hC => by
    conv => rhs; rw [← List.map_id C]
    refine List.map_congr_left fun r hr => if_neg fun (e : r.1 = k) => hC (by rw [← e]; exact List.mem_map_of_mem hr)
  rw [List.map_append, List.map_cons, key A h.a, key B h.b, if_pos rfl]
theorem in_mid {A B : Rows} {k : ByteArray} {l : List Int} : inK k (keysL (A ++ (k, l) :: B)) = true := inK_iff.2 (by unfold keysL; simp)
theorem add_mid {A B : Rows} {k : ByteArray} {l : List Int} (h : Mid k A B) (n : Int) : addR k n (A ++ (k, l) :: B) = A ++ (k, withI n l) :: B := by
  unfold addR
  rw [if_pos in_mid, map_mid h]
theorem add_new {S : Rows} {k : ByteArray} (h : k ∉ keysL S) (n : Int) : addR k n S = S ++ [(k, [n])] := by
  unfold addR
  rw [inK_false.2 h]; rfl
theorem take_none {S : Rows} {k : ByteArray} (h : k ∉ keysL S) : takeR k S = S := List.filter_eq_self.2 fun r hr => by
  have : r.1 ≠ k := fun e => h (e ▸ List.mem_map_of_mem hr)
  simp [this]
theorem take_mid {A B : Rows} {k : ByteArray} {l : List Int} (h : Mid k A B) : takeR k (A ++ (k, l) :: B) = A ++ B := by
  have h1 := take_none h.a
  have h2 := take_none h.b
  unfold takeR at *
  rw [List.filter_append, List.filter_cons_of_neg (by simp), h1, h2]
theorem take_keys (k : ByteArray) (S : Rows) : keysL (takeR k S) = dropK k (keysL S) := by
  unfold takeR keysL dropK
  rw [List.filter_map]; rfl
theorem ids_mid {A B : Rows} {k : ByteArray} {l : List Int} (h : Mid k A B) : idsR k (A ++ (k, l) :: B) = l := by unfold idsR; rw [look_mid h]; rfl
theorem ids_none {S : Rows} {k : ByteArray} (h : k ∉ keysL S) : idsR k S = [] := by unfold idsR; rw [look_none h]; rfl
/-- One row less a number. -/
def cutR (n : Int) (r : ByteArray × List Int) : Rows := if lessI n r.2 = [] then [] else [(r.1, lessI n r.2)]
theorem drop_app (n : Int) (S T : Rows) : dropR n (S ++ T) = dropR n S ++ dropR n T := by unfold dropR; rw [List.map_append, List.filter_append]
theorem drop_one (n : Int) (r : ByteArray × List Int) : dropR n [r] = cutR n r := by
  unfold dropR cutR
  rw [List.map_cons, List.map_nil]
  by_cases h : lessI n r.2 = []
  · rw [if_pos h, List.filter_cons_of_neg (by simpa using h)]; rfl
  · rw [if_neg h, List.filter_cons_of_pos (by simpa using h)]; rfl
theorem drop_cons (n : Int) (r : ByteArray × List Int) (S : Rows) : dropR n (r :: S) = cutR n r ++ dropR n S := by
  rw [← drop_one, ← drop_app]; rfl
theorem drop_len (n : Int) (S : Rows) : (dropR n S).length ≤ S.length := by
  have := List.length_filter_le (fun r : ByteArray × List Int => decide (r.2 ≠ [])) (S.map fun r => (r.1, lessI n r.2))
  rw [List.length_map] at this
  exact this
theorem drop_sub (n : Int) (S : Rows) : (keysL (dropR n S)).Sublist (keysL S) := by
  unfold keysL dropR
  have h1 := (List.filter_sublist (p := fun r : ByteArray × List Int => decide (r.2 ≠ [])) (l := S.map fun r => (r.1, lessI n r.2))).map (·.1)
  rw [List.map_map] at h1
  exact h1
theorem mem_drop {n : Int} {S : Rows} {r : ByteArray × List Int} (h : r ∈ dropR n S) : r.2 ≠ [] ∧ ∃ q ∈ S, r = (q.1, lessI n q.2) := by
  obtain ⟨h1, h2⟩ := List.mem_filter.1 h
  obtain ⟨q, hq, e⟩ := List.mem_map.1 h1
  exact ⟨of_decide_eq_true h2, q, hq, e.symm⟩
namespace Ok
variable {S A B : Rows} {k : ByteArray} {l : List Int} {n : Int}
theorem nil : Ok [] := ⟨List.nodup_nil, fun _ h => (nomatch h), fun _ h => (nomatch h), fun _ h => (nomatch h), fun _ h => (nomatch h)⟩
theorem sub (h : Ok S) (hs : List.Sublist A S) : Ok A := ⟨h.nd.sublist (hs.map _), fun r hr => h.up r (hs.subset hr), fun r hr => h.ne r (hs.subset hr), fun r hr => h.wf r (hs.subset hr), fun r hr => h.ks r (hs.subset hr)⟩
theorem mid (h : Ok (A ++ (k, l) :: B)) : Mid k A B := mid_of h.nd
theorem put (h : Ok (A ++ (k, l) :: B)) {l' : List Int} (hu : Up l') (hn : l' ≠ []) (hw : ∀ x ∈ l', (Lit.int .i64 x).wf = true) : Ok (A ++ (k, l') :: B) := by
  have hk : ∀ r, r ∈ A ++ (k, l') :: B → r ∈ A ++ (k, l) :: B ∨ r = (k, l') := fun r hr => by
    rcases List.mem_append.1 hr with h | h
    · exact .inl (List.mem_append.2 (.inl h))
    · rcases List.mem_cons.1 h with h | h
      · exact .inr h
      · exact .inl (List.mem_append.2 (.inr (List.mem_cons_of_mem _ h)))
  refine ⟨?_, fun r hr => ?_, fun r hr => ?_, fun r hr => ?_, fun r hr => ?_⟩
  · have := h.nd
    unfold keysL at this ⊢
    rw [List.map_append, List.map_cons] at this ⊢
    exact this
  · rcases hk r hr with h' | e
    · exact h.up r h'
    · rw [e]; exact hu
  · rcases hk r hr with h' | e
    · exact h.ne r h'
    · rw [e]; exact hn
  · rcases hk r hr with h' | e
    · exact h.wf r h'
    · rw [e]; exact hw
  · rcases hk r hr with h' | e
    · exact h.ks r h'
    · rw [e]; exact h.ks (k, l) (List.mem_append.2 (.inr (List.mem_cons_self ..)))
theorem new (h : Ok S) (hk : k ∉ keysL S) (hs : k.size ≤ maxLen) (hn : (Lit.int .i64 n).wf = true) : Ok (S ++ [(k, [n])]) := by
  have hc : ∀ r, r ∈ S ++ [(k, [n])] → r ∈ S ∨ r = (k, [n]) := fun r hr => by
    rcases List.mem_append.1 hr with h | h
    · exact .inl h
    · exact .inr (List.mem_singleton.1 h)
  refine ⟨?_, fun r hr => ?_, fun r hr => ?_, fun r hr => ?_, fun r hr => ?_⟩
  · unfold keysL
    rw [List.map_append, List.nodup_append]
    refine ⟨h.nd, by simp, fun a ha b hb e => ?_⟩
    simp only [List.map_cons, List.map_nil, List.mem_singleton] at hb
    exact hk (by rw [← hb, ← e]; exact ha)
  · rcases hc r hr with h' | e
    · exact h.up r h'
    · rw [e]; exact List.pairwise_singleton _ _
  · rcases hc r hr with h' | e
    · exact h.ne r h'
    · rw [e]; simp
  · rcases hc r hr with h' | e
    · exact h.wf r h'
    · rw [e]; intro x hx; rw [List.mem_singleton.1 hx]; exact hn
  · rcases hc r hr with h' | e
    · exact h.ks r h'
    · rw [e]; exact hs
theorem add (h : Ok S) (hs : k.size ≤ maxLen) (hn : (Lit.int .i64 n).wf = true) : Ok (addR k n S) := by
  by_cases hk : k ∈ keysL S
  · obtain ⟨A, l, B, rfl⟩ := key_split hk
    rw [add_mid h.mid]
    have hm : (k, l) ∈ A ++ (k, l) :: B := List.mem_append.2 (.inr (List.mem_cons_self ..))
    exact h.put (up_with (h.up _ hm)) (by unfold withI; simp) fun x hx => by
      rcases mem_with.1 hx with e | hx
      · rw [e]; exact hn
      · exact h.wf _ hm x hx
  · rw [add_new hk]; exact h.new hk hs hn
theorem take (h : Ok S) (k : ByteArray) : Ok (takeR k S) := h.sub List.filter_sublist
theorem room (h : Ok S) (m : Nat) (k : ByteArray) : Ok (roomR m k S) := by
  unfold roomR
  split
  · exact h.sub (List.tail_sublist _)
  · exact h
theorem drop (h : Ok S) (n : Int) : Ok (dropR n S) := by
  refine ⟨h.nd.sublist (drop_sub n S), fun r hr => ?_, fun r hr => (mem_drop hr).1, fun r hr x hx => ?_, fun r hr => ?_⟩
  · obtain ⟨-, q, hq, rfl⟩ := mem_drop hr
    exact up_less (h.up q hq)
  · obtain ⟨-, q, hq, rfl⟩ := mem_drop hr
    exact h.wf q hq x (mem_less.1 hx).1
  · obtain ⟨-, q, hq, rfl⟩ := mem_drop hr
    exact h.ks q hq
end Ok
theorem add_keys {S : Rows} {k : ByteArray} {n : Int} (h : (keysL S).Nodup) : keysL (addR k n S) = if inK k (keysL S) then keysL S else keysL S ++ [k] := by
  by_cases hk : k ∈ keysL S
  · rw [if_pos (inK_iff.2 hk)]
    obtain ⟨A, l, B, rfl⟩ := key_split hk
    rw [add_mid (mid_of h)]
    unfold keysL
    rw [List.map_append, List.map_append, List.map_cons, List.map_cons]
  · rw [add_new hk, inK_false.2 hk]
    unfold keysL
    rw [List.map_append]; rfl
theorem add_len {S : Rows} {k : ByteArray} {n : Int} : (addR k n S).length = S.length + if inK k (keysL S) then 0 else 1 := by
  unfold addR
  split
  · rw [List.length_map]; rfl
  · rw [List.length_append]; rfl
end Go.Proofs.Ytnmncjeplfkdpaa.Ka
