/- Layer 12, plain: a store as keys in the order of their use, what each has, and dues in order; what each call makes of it. No program, no condition. -/
import Derived.Test.YtmjlhmohglbecaaGreatDoorIc7
import Derived.Test.YtmjlhmohglbecaaGreatDoorIaC
import Derived.Test.YtmjlhmohglbecaaGreatDoorCaA
import Derived.Test.YtmjlhmohglbecaaGreatDoorEaY
namespace Go.Proofs.YtmjlhmohglbecaaGreatDoor.Sa
set_option linter.unusedVariables false
set_option linter.unusedSimpArgs false
open Ca (dropK touchK oldK inK)
open Ea (Du UpD dropD putD inD getD dueD insD)
/-- What a key and its item count. -/
def costN (k : ByteArray) (i : Ia.It) : Nat := 48 + k.size + (if i.k = 1 then Ia.textC i.t else if i.k = 2 then Ia.sumC i.l else 0)
/-- A store: its keys, the one used longest ago first; what each has; when they end; the budget; what is still to be told. -/
structure Md where
  K : List ByteArray
  f : ByteArray → Ia.It
  S : List Du
  b : Int
  ev : List (Int × ByteArray)
def sumB (f : ByteArray → Ia.It) (K : List ByteArray) : Nat := (K.map fun k => costN k (f k)).sum
theorem sumB_cons (f : ByteArray → Ia.It) (k : ByteArray) (K : List ByteArray) : sumB f (k :: K) = costN k (f k) + sumB f K := by simp [sumB]
theorem sumB_app (f : ByteArray → Ia.It) (K L : List ByteArray) : sumB f (K ++ L) = sumB f K + sumB f L := by unfold sumB; rw [List.map_append, List.sum_append]
theorem sumB_perm {f : ByteArray → Ia.It} {K L : List ByteArray} (h : List.Perm K L) : sumB f K = sumB f L := (h.map _).sum_nat
theorem sumB_ext {f g : ByteArray → Ia.It} {K : List ByteArray} (h : ∀ k ∈ K, f k = g k) : sumB f K = sumB g K := by
  unfold sumB
  rw [List.map_congr_left fun k hk => by rw [h k hk]]
theorem dropK_perm {k : ByteArray} : ∀ {K : List ByteArray}, K.Nodup → k ∈ K → List.Perm K (k :: dropK k K)
  | [], _, hk => by cases hk
  | x :: r, h, hk => by
    have hx := List.nodup_cons.1 h
    unfold dropK
    by_cases e : x = k
    · subst e
      rw [List.filter_cons_of_neg (by simp)]
      rw [show List.filter (fun y => !decide (y = x)) r = r from Ca.dropK_none hx.1]
    · rw [List.filter_cons_of_pos (by simpa using e)]
      rcases List.mem_cons.1 hk with hk | hk
      · exact absurd hk.symm e
      · exact ((dropK_perm hx.2 hk).cons x).trans (List.Perm.swap ..)
theorem sumB_drop {f : ByteArray → Ia.It} {K : List ByteArray} {k : ByteArray} (h : K.Nodup) (hk : k ∈ K) : sumB f K = costN k (f k) + sumB f (dropK k K) := by
  rw [sumB_perm (dropK_perm h hk), sumB_cons]
theorem dropK_lenM {k : ByteArray} {K : List ByteArray} (h : K.Nodup) (hk : k ∈ K) : K.length = (dropK k K).length + 1 := by
  have := (dropK_perm h hk).length_eq
  simpa using this
theorem touchK_len {k : ByteArray} {K : List ByteArray} (h : K.Nodup) (hk : k ∈ K) : (touchK k K).length = K.length := by
  unfold touchK
  rw [List.length_append, dropK_lenM h hk]; rfl
theorem mem_touchK {k x : ByteArray} {K : List ByteArray} : x ∈ touchK k K ↔ x = k ∨ x ∈ K := by
  unfold touchK
  rw [List.mem_append, List.mem_singleton, Ca.mem_dropK]
  constructor
  · rintro (h | h)
    · exact .inr h.1
    · exact .inl h
  · rintro (h | h)
    · exact .inr h
    · by_cases e : x = k
      · exact .inr e
      · exact .inl ⟨h, e⟩
theorem sumB_touch {f : ByteArray → Ia.It} {K : List ByteArray} {k : ByteArray} (h : K.Nodup) (hk : k ∈ K) : sumB f (touchK k K) = sumB f K := by
  unfold touchK
  rw [sumB_app, sumB_drop h hk, sumB_cons]
  simp [sumB]; omega
/-- What is always so, but that there is room. -/
structure Pre (m : Md) : Prop where
  kn : m.K.Nodup
  up : UpD m.S
  sn : (m.S.map (·.2)).Nodup
  sk : ∀ d ∈ m.S, d.2 ∈ m.K
  sr : ∀ d ∈ m.S, 0 ≤ d.1 ∧ d.1 ≤ 4611686018427387904
  kz : ∀ k ∈ m.K, k.size ≤ 512
  ri : ∀ k ∈ m.K, Ia.RightP (m.f k)
  b0 : 0 ≤ m.b
  b1 : m.b ≤ 1000000000000
  e5 : ∀ e ∈ m.ev, 0 ≤ e.1 ∧ e.1 ≤ 5
structure Ok (m : Md) : Prop extends Pre m where
  le : (sumB m.f m.K : Int) ≤ m.b
theorem sl_le : ∀ {L K : List ByteArray}, L.Nodup → K.Nodup → (∀ x ∈ L, x ∈ K) → L.length ≤ K.length
  | [], _, _, _, _ => Nat.zero_le _
  | x :: r, K, hn, hK, hm => by
    have hx := List.nodup_cons.1 hn
    have h1 := dropK_lenM hK (hm x (List.mem_cons_self ..))
    have h2 : r.length ≤ (dropK x K).length := sl_le hx.2 (Ca.dropK_nodup hK) fun y hy => Ca.mem_dropK.2 ⟨hm y (List.mem_cons_of_mem _ hy), fun e => hx.1 (e ▸ hy)⟩
    simp only [List.length_cons] at *
    omega
theorem Pre.sl {m : Md} (h : Pre m) : m.S.length ≤ m.K.length := by
  have := sl_le h.sn h.kn fun x hx => by
    obtain ⟨d, hd, rfl⟩ := List.mem_map.1 hx
    exact h.sk d hd
  rwa [List.length_map] at this
theorem costN_le {k : ByteArray} {i : Ia.It} (hk : k.size ≤ 512) (hr : Ia.RightP i) : costN k i ≤ 2000000 := by
  unfold costN
  rcases hr with ⟨h1, h2, -⟩ | ⟨h1, -, h2⟩
  · rw [if_pos h1]
    unfold Ia.textC
    split <;> omega
  · rw [if_neg (by omega), if_pos h1]
    have h3 := Ia.sumC_bound i.l fun j hj => ⟨by have := (h2.2.2 j hj).1; omega, by have := (h2.2.2 j hj).2.1; omega⟩
    have h4 := h2.2.1
    omega
theorem Pre.sum_le {m : Md} (h : Pre m) : sumB m.f m.K ≤ 2000000 * m.K.length := by
  have key : ∀ K : List ByteArray, (∀ k ∈ K, k.size ≤ 512 ∧ Ia.RightP (m.f k)) → sumB m.f K ≤ 2000000 * K.length := fun K => by
    induction K with
    | nil => intro _; simp [sumB]
    | cons k K ih =>
      intro hK
      have h1 := costN_le (hK k (List.mem_cons_self ..)).1 (hK k (List.mem_cons_self ..)).2
      have h2 := ih fun x hx => hK x (List.mem_cons_of_mem _ hx)
      rw [sumB_cons, List.length_cons]
      omega
  exact key m.K fun k hk => ⟨h.kz k hk, h.ri k hk⟩
/-- A key goes, told by a kind. -/
def loseM (k : ByteArray) (kind : Int) (m : Md) : Md := { m with K := dropK k m.K, S := dropD k m.S, ev := m.ev ++ [(kind, k)] }
def goneM (k : ByteArray) (kind : Int) (m : Md) : Md := if inK k m.K then loseM k kind m else m
theorem dropD_nodup {k : ByteArray} {S : List Du} (h : (S.map (·.2)).Nodup) : ((dropD k S).map (·.2)).Nodup := by
  unfold dropD
  exact h.sublist (List.Sublist.map _ List.filter_sublist)
theorem Pre.lose {m : Md} (h : Pre m) (k : ByteArray) (kind : Int) (h0 : 0 ≤ kind) (h5 : kind ≤ 5) : Pre (loseM k kind m) :=
  { kn := Ca.dropK_nodup h.kn
    up := h.up.drop
    sn := dropD_nodup h.sn
    sk := fun d hd => by
      have := Ea.mem_dropD.1 hd
      exact Ca.mem_dropK.2 ⟨h.sk d this.1, this.2⟩
    sr := fun d hd => h.sr d (Ea.mem_dropD.1 hd).1
    kz := fun x hx => h.kz x (Ca.mem_dropK.1 hx).1
    ri := fun x hx => h.ri x (Ca.mem_dropK.1 hx).1
    b0 := h.b0
    b1 := h.b1
    e5 := fun e he => by
      rcases List.mem_append.1 he with he | he
      · exact h.e5 e he
      · rw [List.mem_singleton.1 he]; exact ⟨h0, h5⟩ }
theorem sumB_dropK_le (f : ByteArray → Ia.It) (k : ByteArray) (K : List ByteArray) : sumB f (dropK k K) ≤ sumB f K := by
  unfold dropK
  induction K with
  | nil => exact Nat.le_refl _
  | cons x K ih =>
    rw [List.filter_cons]
    split
    · rw [sumB_cons, sumB_cons]; omega
    · rw [sumB_cons]; omega
theorem Ok.lose {m : Md} (h : Ok m) (k : ByteArray) (kind : Int) (h0 : 0 ≤ kind) (h5 : kind ≤ 5) : Ok (loseM k kind m) :=
  { h.toPre.lose k kind h0 h5 with
    le := by
      have := sumB_dropK_le m.f k m.K
      have := h.le
      show ((sumB m.f (dropK k m.K) : Nat) : Int) ≤ m.b
      omega }
theorem Pre.gone {m : Md} (h : Pre m) (k : ByteArray) (kind : Int) (h0 : 0 ≤ kind) (h5 : kind ≤ 5) : Pre (goneM k kind m) := by
  unfold goneM
  split
  · exact h.lose k kind h0 h5
  · exact h
theorem Ok.gone {m : Md} (h : Ok m) (k : ByteArray) (kind : Int) (h0 : 0 ≤ kind) (h5 : kind ≤ 5) : Ok (goneM k kind m) := by
  unfold goneM
  split
  · exact h.lose k kind h0 h5
  · exact h
theorem dropK_leN (k : ByteArray) (l : List ByteArray) : (dropK k l).length ≤ l.length := List.length_filter_le _ _
theorem gone_len (k : ByteArray) (kind : Int) (m : Md) : (goneM k kind m).K.length ≤ m.K.length := by
  unfold goneM
  split
  · exact dropK_leN k m.K
  · exact Nat.le_refl _
/-- Has a key ended? -/
def endsM (m : Md) (k : ByteArray) (now : Int) : Bool := inD k m.S && decide (getD k m.S ≤ now)
def endM (k : ByteArray) (now : Int) (m : Md) : Md := if endsM m k now then loseM k 3 m else m
theorem Ok.end_ {m : Md} (h : Ok m) (k : ByteArray) (now : Int) : Ok (endM k now m) := by
  unfold endM
  split
  · exact h.lose k 3 (by decide) (by decide)
  · exact h
theorem end_len (k : ByteArray) (now : Int) (m : Md) : (endM k now m).K.length ≤ m.K.length := by
  unfold endM
  split
  · exact dropK_leN k m.K
  · exact Nat.le_refl _
theorem end_b (k : ByteArray) (now : Int) (m : Md) : (endM k now m).b = m.b := by
  unfold endM
  split <;> rfl
theorem Pre.due_in {m : Md} (h : Pre m) {k : ByteArray} (hk : inD k m.S = true) : k ∈ m.K := by
  obtain ⟨d, hd, rfl⟩ := List.mem_map.1 (Ea.inD_iff.1 hk)
  exact h.sk d hd
theorem getD_mem {S : List Du} {k : ByteArray} (h : inD k S = true) : (getD k S, k) ∈ S := by
  unfold getD
  cases e : S.find? fun d => decide (d.2 = k) with
  | none =>
    obtain ⟨d, hd, hk⟩ := List.any_eq_true.1 h
    have := List.find?_eq_none.1 e d hd
    exact absurd hk this
  | some d =>
    have h1 := List.find?_some e
    simp only [decide_eq_true_eq] at h1
    have h2 := List.mem_of_find?_eq_some e
    obtain ⟨t, q⟩ := d
    simp only at h1
    subst h1
    exact h2
theorem Pre.due_rng {m : Md} (h : Pre m) {k : ByteArray} (hk : inD k m.S = true) : 0 ≤ getD k m.S ∧ getD k m.S ≤ 4611686018427387904 := h.sr _ (getD_mem hk)
/-- When a key ends, or -1. -/
def whenM (m : Md) (k : ByteArray) : Int := if inD k m.S then getD k m.S else -1
theorem ends_iff {m : Md} (h : Pre m) (k : ByteArray) (now : Int) : endsM m k now = true ↔ 0 ≤ whenM m k ∧ whenM m k ≤ now := by
  unfold endsM whenM
  cases hk : inD k m.S with
  | true =>
    have := (h.due_rng hk).1
    simp only [Bool.true_and, decide_eq_true_eq, if_true]
    exact ⟨fun h => ⟨this, h⟩, fun h => h.2⟩
  | false => simp
def getM (k : ByteArray) (m : Md) : Md := if inK k m.K then { m with K := touchK k m.K } else m
theorem Pre.touch {m : Md} (h : Pre m) {k : ByteArray} (hk : k ∈ m.K) : Pre { m with K := touchK k m.K } :=
  { kn := Ca.touchK_nodup h.kn
    up := h.up
    sn := h.sn
    sk := fun d hd => mem_touchK.2 (.inr (h.sk d hd))
    sr := h.sr
    kz := fun x hx => h.kz x ((mem_touchK.1 hx).elim (fun e => e ▸ hk) id)
    ri := fun x hx => h.ri x ((mem_touchK.1 hx).elim (fun e => e ▸ hk) id)
    b0 := h.b0
    b1 := h.b1
    e5 := h.e5 }
theorem Ok.get {m : Md} (h : Ok m) (k : ByteArray) : Ok (getM k m) := by
  unfold getM
  split
  · rename_i hk
    have hk := Ca.inK_iff.1 hk
    exact {
      h.toPre.touch hk with
      le := by
        show ((sumB m.f (touchK k m.K) : Nat) : Int) ≤ m.b
        rw [sumB_touch h.kn hk]; exact h.le }
  · exact h
theorem get_len {m : Md} (h : Pre m) (k : ByteArray) : (getM k m).K.length = m.K.length := by
  unfold getM
  split
  · rename_i hk
    exact touchK_len h.kn (Ca.inK_iff.1 hk)
  · rfl
def updF (f : ByteArray → Ia.It) (k : ByteArray) (i : Ia.It) : ByteArray → Ia.It := fun x => if x = k then i else f x
theorem updF_same (f : ByteArray → Ia.It) (k : ByteArray) (i : Ia.It) : updF f k i k = i := if_pos rfl
theorem updF_ne {f : ByteArray → Ia.It} {k x : ByteArray} {i : Ia.It} (h : x ≠ k) : updF f k i x = f x := if_neg h
/-- A key has an item; the others have still to make room. -/
def setM (k : ByteArray) (i : Ia.It) (keep : Bool) (m : Md) : Md :=
  { m with K := touchK k m.K, f := updF m.f k i, S := if keep then m.S else dropD k m.S, ev := m.ev ++ [(1, k)] }
theorem Pre.set {m : Md} (h : Pre m) (k : ByteArray) (hk : k.size ≤ 512) (i : Ia.It) (hi : Ia.RightP i) (keep : Bool) : Pre (setM k i keep m) :=
  { kn := Ca.touchK_nodup h.kn
    up := by
      show UpD (if keep then m.S else dropD k m.S)
      cases keep
      · exact h.up.drop
      · exact h.up
    sn := by
      show ((if keep then m.S else dropD k m.S).map (·.2)).Nodup
      cases keep
      · exact dropD_nodup h.sn
      · exact h.sn
    sk := fun d hd => by
      have hd : d ∈ (if keep then m.S else dropD k m.S) := hd
      refine mem_touchK.2 (.inr (h.sk d ?_))
      cases keep
      · exact (Ea.mem_dropD.1 hd).1
      · exact hd
    sr := fun d hd => by
      have hd : d ∈ (if keep then m.S else dropD k m.S) := hd
      refine h.sr d ?_
      cases keep
      · exact (Ea.mem_dropD.1 hd).1
      · exact hd
    kz := fun x hx => by
      rcases mem_touchK.1 hx with e | e
      · rw [e]; exact hk
      · exact h.kz x e
    ri := fun x hx => by
      show Ia.RightP (updF m.f k i x)
      by_cases e : x = k
      · rw [e, updF_same]; exact hi
      · rw [updF_ne e]
        exact h.ri x ((mem_touchK.1 hx).resolve_left e)
    b0 := h.b0
    b1 := h.b1
    e5 := fun e he => by
      rcases List.mem_append.1 he with he | he
      · exact h.e5 e he
      · rw [List.mem_singleton.1 he]; exact ⟨by omega, by omega⟩ }
theorem touch_le (k : ByteArray) (K : List ByteArray) : (touchK k K).length ≤ K.length + 1 := by
  unfold touchK
  rw [List.length_append]
  have := dropK_leN k K
  show _ + 1 ≤ _
  omega
/-- Keys go, the one used longest ago first, until the others have room, or but one is left. -/
def evF : Nat → Md → Md
  | 0, m => m
  | n + 1, m => match m.K with
    | x :: _ :: _ => if m.b < (sumB m.f m.K : Int) then evF n (loseM x 4 m) else m
    | _ => m
def evM (m : Md) : Md := evF m.K.length m
theorem lose_head {m : Md} {x : ByteArray} {r : List ByteArray} (h : m.K.Nodup) (e : m.K = x :: r) (kind : Int) : (loseM x kind m).K = r := by
  show dropK x m.K = r
  rw [e]
  rw [e] at h
  unfold dropK
  rw [List.filter_cons_of_neg (by simp)]
  exact Ca.dropK_none (List.nodup_cons.1 h).1
theorem evF_stop {m : Md} (h : (sumB m.f m.K : Int) ≤ m.b ∨ m.K.length ≤ 1) : ∀ n, evF n m = m
  | 0 => rfl
  | n + 1 => by
    unfold evF
    match e : m.K with
    | [] => rfl
    | [x] => rfl
    | x :: y :: r =>
      rcases h with h | h
      · rw [e] at h
        simp only
        rw [if_neg (by omega)]
      · rw [e] at h; simp at h
theorem evF_more {m : Md} : ∀ {n : Nat}, m.K.length ≤ n → m.K.Nodup → evF n m = evM m := by
  have key : ∀ (n : Nat) (m : Md), m.K.length ≤ n → m.K.Nodup → ∀ j, m.K.length ≤ j → evF n m = evF j m := fun n => by
    induction n with
    | zero =>
      intro m hl hn j hj
      rw [evF_stop (.inr (by omega)) 0, evF_stop (.inr (by omega)) j]
    | succ n ih =>
      intro m hl hn j hj
      match e : m.K, j, hj with
      | [], j, hj => rw [evF_stop (.inr (by rw [e]; simp)), evF_stop (.inr (by rw [e]; simp))]
      | [x], j, hj => rw [evF_stop (.inr (by rw [e]; simp)), evF_stop (.inr (by rw [e]; simp))]
      | x :: y :: r, 0, hj => exact absurd hj (by rw [← e] at hj; rw [e] at hj; simp)
      | x :: y :: r, j + 1, hj =>
        have hk := lose_head hn e 4
        rw [e] at hl
        unfold evF
        simp only [e]
        split
        · exact ih _ (by rw [hk]; simp at hl ⊢; omega) (by rw [hk]; rw [e] at hn; exact (List.nodup_cons.1 hn).2) j (by rw [hk]; simp at hj ⊢; omega)
        · rfl
  intro n hl hn
  exact key n m hl hn _ (Nat.le_refl _)
theorem evM_step {m : Md} (hn : m.K.Nodup) {x y : ByteArray} {r : List ByteArray} (e : m.K = x :: y :: r) (hb : m.b < (sumB m.f m.K : Int)) : evM m = evM (loseM x 4 m) := by
  have hk := lose_head hn e 4
  have h1 : evM m = evF ((y :: r).length) (loseM x 4 m) := by
    unfold evM
    rw [show m.K.length = (y :: r).length + 1 by rw [e]; rfl]
    rw [evF]
    simp only [e]
    rw [← e, if_pos hb]
  rw [h1]
  exact evF_more (by rw [hk]; exact Nat.le_refl _) (by rw [hk]; rw [e] at hn; exact (List.nodup_cons.1 hn).2)
/-- What holds of all that eviction comes by. -/
theorem evM_ind {P : Md → Prop} (hP : ∀ m x y r, P m → m.K = x :: y :: r → m.b < (sumB m.f m.K : Int) → P (loseM x 4 m)) {m : Md} (h : P m) : P (evM m) := by
  have key : ∀ n m, P m → P (evF n m) := fun n => by
    induction n with
    | zero => intro m h; exact h
    | succ n ih =>
      intro m h
      unfold evF
      match e : m.K with
      | [] => exact h
      | [x] => exact h
      | x :: y :: r =>
        simp only
        split
        · rename_i hb
          exact ih _ (hP m x y r h e (by rw [e]; exact hb))
        · exact h
  exact key _ _ h
theorem evM_fit {m : Md} (hn : m.K.Nodup) : (sumB (evM m).f (evM m).K : Int) ≤ (evM m).b ∨ (evM m).K.length ≤ 1 := by
  have key : ∀ n m, m.K.Nodup → m.K.length ≤ n → (sumB (evF n m).f (evF n m).K : Int) ≤ (evF n m).b ∨ (evF n m).K.length ≤ 1 := fun n => by
    induction n with
    | zero => intro m _ h; exact .inr (by show m.K.length ≤ 1; omega)
    | succ n ih =>
      intro m hn h
      match e : m.K with
      | [] => rw [evF_stop (.inr (by rw [e]; simp))]; exact .inr (by rw [e]; simp)
      | [x] => rw [evF_stop (.inr (by rw [e]; simp))]; exact .inr (by rw [e]; simp)
      | x :: y :: r =>
        have hk := lose_head hn e 4
        by_cases hb : m.b < (sumB m.f m.K : Int)
        · have e2 : evF (n + 1) m = evF n (loseM x 4 m) := by
            rw [evF]
            simp only [e]
            rw [← e, if_pos hb]
          rw [e2]
          exact ih _ (by rw [hk]; rw [e] at hn; exact (List.nodup_cons.1 hn).2) (by rw [hk]; rw [e] at h; simp at h ⊢; omega)
        · rw [evF_stop (.inl (by omega))]
          exact .inl (by omega)
  exact key _ _ hn (Nat.le_refl _)
theorem Pre.ev {m : Md} (h : Pre m) : Pre (evM m) := evM_ind (fun m x y r h _ _ => h.lose x 4 (by decide) (by decide)) h
theorem evM_b (m : Md) : (evM m).b = m.b := evM_ind (P := fun x => x.b = m.b) (fun m x y r h _ _ => h) rfl
theorem evM_f (m : Md) : (evM m).f = m.f := evM_ind (P := fun x => x.f = m.f) (fun m x y r h _ _ => h) rfl
theorem evM_len (m : Md) : (evM m).K.length ≤ m.K.length := evM_ind (P := fun x => x.K.length ≤ m.K.length) (fun a x y r h _ _ => Nat.le_trans (dropK_leN x a.K) h) (Nat.le_refl _)
/-- The key that was used last is there still. -/
theorem evM_last {m : Md} (hn : m.K.Nodup) {A : List ByteArray} {k : ByteArray} (h : m.K = A ++ [k]) : ∃ B, (evM m).K = B ++ [k] ∧ ∃ C, A = C ++ B := by
  refine (evM_ind (P := fun a => a.K.Nodup ∧ ∃ B, a.K = B ++ [k] ∧ ∃ C, A = C ++ B) (fun a x y r h e _ => ?_) ⟨hn, A, h, [], rfl⟩).2
  obtain ⟨hn, B, hB, C, hC⟩ := h
  have hk := lose_head hn e 4
  refine ⟨by rw [hk]; rw [e] at hn; exact (List.nodup_cons.1 hn).2, ?_⟩
  cases B with
  | nil => rw [hB] at e; simp at e
  | cons z B =>
    rw [hB] at e
    injection e with e1 e2
    exact ⟨B, by rw [hk, ← e2]; rfl, C ++ [z], by rw [hC]; simp⟩
theorem Ok.put {m : Md} (h : Ok m) (k : ByteArray) (hk : k.size ≤ 512) (i : Ia.It) (hi : Ia.RightP i) (keep : Bool) (hc : (costN k i : Int) ≤ m.b) : Ok (evM (setM k i keep m)) := by
  have hp := h.toPre.set k hk i hi keep
  refine { hp.ev with le := ?_ }
  rcases evM_fit hp.kn with h1 | h1
  · exact h1
  · obtain ⟨B, hB, -⟩ := evM_last hp.kn (A := dropK k m.K) (k := k) rfl
    rw [hB] at h1 ⊢
    have hB0 : B = [] := List.eq_nil_of_length_eq_zero (by rw [List.length_append, List.length_singleton] at h1; omega)
    subst hB0
    rw [evM_b, evM_f]
    show ((sumB (updF m.f k i) [k] : Nat) : Int) ≤ m.b
    rw [sumB_cons, updF_same]
    simp [sumB]
    exact hc
/-- A key ends then. -/
def dueM (k : ByteArray) (t : Int) (m : Md) : Md := { m with S := putD k t m.S, ev := m.ev ++ [(1, k)] }
def undueM (k : ByteArray) (m : Md) : Md := { m with S := dropD k m.S, ev := m.ev ++ [(1, k)] }
theorem insD_permM {d : Du} {S : List Du} : List.Perm (insD d S) (d :: S) := Ea.insD_perm
theorem putD_nodup {k : ByteArray} {t : Int} {S : List Du} (h : (S.map (·.2)).Nodup) : ((putD k t S).map (·.2)).Nodup := by
  unfold putD
  rw [((insD_permM (d := (t, k)) (S := dropD k S)).map (·.2)).nodup_iff, List.map_cons, List.nodup_cons]
  refine ⟨fun hm => ?_, dropD_nodup h⟩
  obtain ⟨d, hd, e⟩ := List.mem_map.1 hm
  exact (Ea.mem_dropD.1 hd).2 e
theorem ev1 {ev : List (Int × ByteArray)} (h : ∀ e ∈ ev, 0 ≤ e.1 ∧ e.1 ≤ 5) (k : ByteArray) : ∀ e ∈ ev ++ [((1 : Int), k)], 0 ≤ e.1 ∧ e.1 ≤ 5 := fun e he => by
  rcases List.mem_append.1 he with he | he
  · exact h e he
  · rw [List.mem_singleton.1 he]; exact ⟨by omega, by omega⟩
theorem Ok.due {m : Md} (h : Ok m) {k : ByteArray} (hk : k ∈ m.K) {t : Int} (h0 : 0 ≤ t) (h1 : t ≤ 4611686018427387904) : Ok (dueM k t m) :=
  { h with
    up := h.up.put
    sn := putD_nodup h.sn
    sk := fun d hd => by
      rcases Ea.mem_insD.1 hd with e | e
      · rw [e]; exact hk
      · exact h.sk d (Ea.mem_dropD.1 e).1
    sr := fun d hd => by
      rcases Ea.mem_insD.1 hd with e | e
      · rw [e]; exact ⟨h0, h1⟩
      · exact h.sr d (Ea.mem_dropD.1 e).1
    e5 := ev1 h.e5 k }
theorem Ok.undue {m : Md} (h : Ok m) (k : ByteArray) : Ok (undueM k m) :=
  { h with
    up := h.up.drop
    sn := dropD_nodup h.sn
    sk := fun d hd => h.sk d (Ea.mem_dropD.1 hd).1
    sr := fun d hd => h.sr d (Ea.mem_dropD.1 hd).1
    e5 := ev1 h.e5 k }
/-- Keys that have ended go, one behind the other. -/
def swM : List ByteArray → Md → Md
  | [], m => m
  | k :: r, m => swM r (goneM k 3 m)
theorem Ok.sw : ∀ (l : List ByteArray) {m : Md}, Ok m → Ok (swM l m)
  | [], _, h => h
  | k :: r, _, h => Ok.sw r (h.gone k 3 (by decide) (by decide))
theorem sw_len : ∀ (l : List ByteArray) (m : Md), (swM l m).K.length ≤ m.K.length
  | [], _ => Nat.le_refl _
  | k :: r, m => Nat.le_trans (sw_len r _) (gone_len k 3 m)
theorem sw_b : ∀ (l : List ByteArray) (m : Md), (swM l m).b = m.b
  | [], _ => rfl
  | k :: r, m => by
    rw [swM, sw_b r]
    unfold goneM
    split <;> rfl
theorem swM_app : ∀ (l r : List ByteArray) (m : Md), swM (l ++ r) m = swM r (swM l m)
  | [], _, _ => rfl
  | k :: l, r, m => swM_app l r _
def flushM (m : Md) : Md := { m with K := [], S := [], ev := m.ev ++ [(5, ⟨#[]⟩)] }
theorem Ok.flush {m : Md} (h : Ok m) : Ok (flushM m) :=
  { h with
    kn := List.nodup_nil
    up := List.Pairwise.nil
    sn := List.nodup_nil
    sk := fun d hd => by cases hd
    sr := fun d hd => by cases hd
    kz := fun d hd => by cases hd
    ri := fun d hd => by cases hd
    e5 := fun e he => by
      rcases List.mem_append.1 he with he | he
      · exact h.e5 e he
      · rw [List.mem_singleton.1 he]; exact ⟨by omega, by omega⟩
    le := by
      have := h.b0
      show ((sumB m.f [] : Nat) : Int) ≤ m.b
      simp [sumB]; exact this }
def toldM (m : Md) : Md := { m with ev := [] }
theorem Ok.told {m : Md} (h : Ok m) : Ok (toldM m) := { h with e5 := fun e he => by cases he }
def budOf (b : Int) : Int := min (max b 0) 1000000000000
def newM (b : Int) : Md := ⟨[], fun _ => ⟨0, ⟨#[]⟩, []⟩, [], budOf b, []⟩
theorem Ok.new (b : Int) : Ok (newM b) :=
  { kn := List.nodup_nil
    up := List.Pairwise.nil
    sn := List.nodup_nil
    sk := fun d hd => by cases hd
    sr := fun d hd => by cases hd
    kz := fun d hd => by cases hd
    ri := fun d hd => by cases hd
    b0 := by show 0 ≤ budOf b; unfold budOf; omega
    b1 := by show budOf b ≤ _; unfold budOf; omega
    e5 := fun d hd => by cases hd
    le := by show ((sumB _ [] : Nat) : Int) ≤ budOf b; simp [sumB]; unfold budOf; omega }
end Go.Proofs.YtmjlhmohglbecaaGreatDoor.Sa
