/- Layer 14's KeysBound: a map of maps as a thing. No condition. -/
import Derived.Test.YtkpcobaklbfpcaaKt1
import Derived.Test.YtkpcobaklbfpcaaKs1
namespace Go.Proofs.Ytkpcobaklbfpcaa.Ka
set_option linter.unusedVariables false
set_option linter.unusedSimpArgs false
open Go.ChangeShapes Go.WideShapes Go.ChangeAt Go.RowKit Go.Maps Go.WideMaps
open Sp (Th Hp Stays All Ro roT cellsT rowT exT puT star mapT setG jmapT setN)
theorem zeroM (w : World) : (zeroValue 49).run Try.prog w = .ok (.map none) w := by kernel_rfl
theorem zeroN (w : World) : (zeroValue 3).run Try.prog w = .ok (.int .i64 0) w := by kernel_rfl
noncomputable def elM : Sp.El Try.prog 49 (Option Nat) := Sp.mpEl Try.prog 49 zeroM
noncomputable def elJ : Sp.El Try.prog 3 Int := Sp.intEl Try.prog 3 .i64 Try.underlying3 (by decide) zeroN
/-- A key's numbers as a map, in a block, put to so often. -/
structure Nw where
  ids : List Int
  b : Nat
  c : Nat
abbrev Nl := List (ByteArray × Nw)
def hasN (ids : List Int) : Int → Option Int := fun x => if x ∈ ids then some 1 else none
noncomputable def jT (r : ByteArray × Nw) : Th := jmapT 3 elJ r.2.b r.2.ids.length r.2.c (hasN r.2.ids)
def nwL (L : Nl) : List (ByteArray × Option Nat) := L.map fun r => (r.1, some r.2.b)
def plainN (L : Nl) : Rows := L.map fun r => (r.1, r.2.ids)
/-- The map of maps: M says of each key its block. -/
noncomputable def nowT (M : Nat) (W : Nl) (c : Nat) : Th := star [mapT 9 elM M W.length c (lookL (nwL W)), star (W.map jT)]
theorem plainN_keys (L : Nl) : keysL (nwL L) = keysL (plainN L) := by unfold keysL nwL plainN; rw [List.map_map, List.map_map]; rfl
theorem nwL_app (A B : Nl) : nwL (A ++ B) = nwL A ++ nwL B := by unfold nwL; rw [List.map_append]
theorem nwL_mid (A B : Nl) (r : ByteArray × Nw) : nwL (A ++ r :: B) = nwL A ++ (r.1, some r.2.b) :: nwL B := by unfold nwL; rw [List.map_append, List.map_cons]
theorem plainN_app (A B : Nl) : plainN (A ++ B) = plainN A ++ plainN B := by unfold plainN; rw [List.map_append]
theorem plainN_mid {L : Nl} {A B : Rows} {k : ByteArray} {l : List Int} (h : plainN L = A ++ (k, l) :: B) : ∃ LA b c LB, L = LA ++ (k, ⟨l, b, c⟩) :: LB ∧ plainN LA = A ∧ plainN LB = B := by
  unfold plainN at h
  obtain ⟨LA, r, rfl, h1, h2⟩ := List.map_eq_append_iff.1 h
  obtain ⟨p, LB, rfl, h3, h4⟩ := List.map_eq_cons_iff.1 h2
  obtain ⟨k', ⟨l', b, c⟩⟩ := p
  injection h3 with e1 e2
  subst e1 e2
  exact ⟨LA, b, c, LB, rfl, h1, h4⟩
theorem mid_nw {A B : Rows} {k : ByteArray} (h : Mid k A B) {LA LB : Nl} (ha : plainN LA = A) (hb : plainN LB = B) : Mid k (nwL LA) (nwL LB) := ⟨by rw [plainN_keys, ha]; exact h.a, by rw [plainN_keys, hb]; exact h.b⟩
theorem has_put (ids : List Int) (n : Int) : setN (hasN ids) n (some 1) = hasN (withI n ids) := by
  funext x
  unfold setN hasN
  by_cases e : x = n
  · rw [if_pos e, if_pos (mem_with.2 (.inl e))]
  · rw [if_neg e]
    by_cases hx : x ∈ ids
    · rw [if_pos hx, if_pos (mem_with.2 (.inr hx))]
    · rw [if_neg hx, if_neg fun h => (mem_with.1 h).elim e hx]
theorem has_del (ids : List Int) (n : Int) : setN (hasN ids) n none = hasN (lessI n ids) := by
  funext x
  unfold setN hasN
  by_cases e : x = n
  · rw [if_pos e, if_neg fun h => (mem_less.1 h).2 e]
  · rw [if_neg e]
    by_cases hx : x ∈ ids
    · rw [if_pos hx, if_pos (mem_less.2 ⟨hx, e⟩)]
    · rw [if_neg hx, if_neg fun h => hx (mem_less.1 h).1]
theorem put_count {ids : List Int} (hu : Up ids) (n : Int) : ids.length + (if (hasN ids n).isSome = true then 0 else 1) = (withI n ids).length := by
  unfold hasN
  by_cases h : n ∈ ids
  · rw [if_pos h, with_in hu h]; rfl
  · rw [if_neg h]
    have e := congrArg List.length (split_out hu h)
    unfold withI
    rw [List.length_append] at e ⊢
    rw [List.length_cons, e]
    show _ + 1 = _
    omega
theorem del_count {ids : List Int} (hu : Up ids) (n : Int) : ids.length - (if (hasN ids n).isSome = true then 1 else 0) = (lessI n ids).length := by
  unfold hasN
  by_cases h : n ∈ ids
  · rw [if_pos h, less_in hu h]
    have e := congrArg List.length (split_in hu h)
    rw [List.length_append, List.length_cons] at e
    rw [List.length_append, e]
    show _ - 1 = _
    omega
  · rw [if_neg h, less_none h]; rfl
theorem less_twice (n : Int) (ids : List Int) : lessI n (lessI n ids) = lessI n ids := less_none fun h => (mem_less.1 h).2 rfl
section
variable {o w w' wb : World} {l : List Th} {M c : Nat} {W LA LB : Nl} {k : ByteArray} {r : Nw}
theorem now_open (h : Hp o w (nowT M W c :: l)) : Hp o w (mapT 9 elM M W.length c (lookL (nwL W)) :: star (W.map jT) :: l) := h.open
theorem now_shut (h : Hp o w (mapT 9 elM M W.length c (lookL (nwL W)) :: star (W.map jT) :: l)) : Hp o w (nowT M W c :: l) := Hp.shut (m := [mapT 9 elM M W.length c (lookL (nwL W)), star (W.map jT)]) h
/-- What the map says of a key. -/
theorem now_look {A B : Rows} (hm : Mid k A B) (ha : plainN LA = A) (hb : plainN LB = B) : elM.enc ((lookL (nwL (LA ++ (k, r) :: LB)) k).getD elM.zero) = .map (some r.b) := by
  rw [nwL_mid, look_mid (mid_nw hm ha hb)]; rfl
theorem now_none (h : k ∉ keysL (plainN W)) : elM.enc ((lookL (nwL W) k).getD elM.zero) = .map none := by
  rw [look_none (by rw [plainN_keys]; exact h)]; rfl
theorem jmid (h : Hp o w (star ((LA ++ (k, r) :: LB).map jT) :: l)) : Hp o w (jT (k, r) :: star ((LA ++ LB).map jT) :: l) := by
  rw [List.map_append, List.map_cons] at h
  rw [List.map_append]
  exact Hp.starMid h
theorem jback (h : Hp o w (jT (k, r) :: star ((LA ++ LB).map jT) :: l)) : Hp o w (star ((LA ++ (k, r) :: LB).map jT) :: l) := by
  rw [List.map_append] at h
  rw [List.map_append, List.map_cons]
  exact Hp.starBack h
end
end Go.Proofs.Ytkpcobaklbfpcaa.Ka
