/- KeysBound: one read. No condition. -/
import Derived.Test.YtkpcobaklbfpcaaKu1
import Derived.Deep.Cut
namespace Go.Proofs.Ytkpcobaklbfpcaa.Ka
set_option linter.unusedVariables false
set_option linter.unusedSimpArgs false
open Go.ChangeShapes Go.WideShapes Go.ChangeAt Go.RowKit Go.Maps Go.WideMaps
open Sp (Th Hp Stays All Ro roT cellsT rowT exT puT star mapT setG jmapT setN)
theorem wf_of {n : Int} (h1 : -9223372036854775808 ≤ n) (h2 : n ≤ 9223372036854775807) : (Lit.int .i64 n).wf = true := by
  have e1 : IntKind.i64.min = -9223372036854775808 := rfl
  have e2 : IntKind.i64.max = 9223372036854775807 := rfl
  simp [Lit.wf, e1, e2, h1, h2]
/-- Rows each less a number, empty ones too. -/
def redR (n : Int) (S : Rows) : Rows := S.map fun r => (r.1, lessI n r.2)
theorem redR_keys (n : Int) (S : Rows) : keysL (redR n S) = keysL S := by unfold keysL redR; rw [List.map_map]; rfl
theorem redR_app (n : Int) (A B : Rows) : redR n (A ++ B) = redR n A ++ redR n B := by unfold redR; rw [List.map_append]
theorem redR_look {A B : Rows} {k : ByteArray} {ids : List Int} (hm : Mid k A B) (n : Int) : lookL (redR n (A ++ (k, ids) :: B)) k = some (lessI n ids) := by
  rw [redR_app]
  exact look_mid (A := redR n A) (B := redR n B) ⟨by rw [redR_keys]; exact hm.a, by rw [redR_keys]; exact hm.b⟩ _
theorem leave_look {S : Rows} (h : Ok S) (n : Int) {k : ByteArray} {l : List Int} (hk : lookL (redR n S) k = some l) : idsR k (dropR n S) = l := by
  have hin : k ∈ keysL S := by
    refine Classical.byContradiction fun hn => ?_
    rw [look_none (by rw [redR_keys]; exact hn)] at hk
    cases hk
  obtain ⟨A, ids, B, rfl⟩ := key_split hin
  rw [redR_look h.mid] at hk
  rw [leave_ids h, Option.some.inj hk]
/-- Where the map of maps says a key. -/
theorem now_find {W : Nl} {k : ByteArray} {x : Option Nat} (h : lookL (nwL W) k = some x) : ∃ LA ids b c LB, W = LA ++ (k, ⟨ids, b, c⟩) :: LB ∧ x = some b ∧ k ∉ keysL (plainN LA) := by
  unfold lookL at h
  rw [Option.map_eq_some_iff] at h
  obtain ⟨p, hp, rfl⟩ := h
  obtain ⟨h1, la, lb, h2, h3⟩ := List.find?_eq_some_iff_append.1 hp
  unfold nwL at h2
  obtain ⟨LA, r, rfl, e1, e2⟩ := List.map_eq_append_iff.1 h2
  obtain ⟨q, LB, rfl, e3, e4⟩ := List.map_eq_cons_iff.1 e2
  obtain ⟨k', ⟨ids, b, c⟩⟩ := q
  subst e3
  have hk : k' = k := of_decide_eq_true h1
  subst hk
  refine ⟨LA, ids, b, c, LB, rfl, rfl, fun hm => ?_⟩
  rw [← plainN_keys] at hm
  obtain ⟨z, hz, e⟩ := List.mem_map.1 hm
  have := h3 z (by rw [← e1]; exact hz)
  rw [e] at this
  simp at this
theorem red_find {LA LB : Nl} {k : ByteArray} {ids : List Int} {b c : Nat} (h : k ∉ keysL (plainN LA)) (n : Int) : lookL (redR n (plainN (LA ++ (k, ⟨ids, b, c⟩) :: LB))) k = some (lessI n ids) := by
  rw [plainN_app, redR_app, look_app (by rw [redR_keys]; exact h)]
  unfold plainN redR
  rw [List.map_cons, List.map_cons, look_cons, if_pos rfl]
/-- The rows, as the maps say them: how often each was put to at most. -/
structure NowI (S : Rows) (W : Nl) (i c : Nat) : Prop where
  pl : plainN W = S
  c : c ≤ 2 * i
  cs : ∀ r ∈ W, r.2.c ≤ i
theorem NowI.len {S : Rows} {W : Nl} {i c : Nat} (h : NowI S W i c) : W.length = S.length := by rw [← h.pl]; unfold plainN; rw [List.length_map]
section
variable {o w w' wb : World} {l : List Th} {M c i m : Nat} {W : Nl} {S : Rows} {k : ByteArray} {n : Int}
variable {ops : Array Oper} {rest : List Oper} {oo : Oper} {a : Act} {Q : Exit → Act → World → Prop}
/-- What the first row's map says of itself. -/
theorem now_head {A B : Rows} {ids : List Int} (h : Hp o w (mapT 9 elM M W.length c (lookL (nwL W)) :: star (W.map jT) :: l)) (hp : plainN W = A ++ (k, ids) :: B) (hm : Mid k A B) (hk : k.size ≤ maxLen) :
    ∃ b, (Instr.lookup 48 (.map (some M)) (.string k) false).run Try.prog w = .ok (.map (some b)) w ∧ ∀ ty, (Builtin.len_ #[49] ty #[.map (some b)]).run Try.prog w = .ok (.int .i64 ids.length) w := by
  obtain ⟨LA, b, c', LB, rfl, hA, hB⟩ := plainN_mid hp
  refine ⟨b, ?_, fun ty => ?_⟩
  · have := Sp.Hp.mapLook (T := 48) h Try.underlying9 Try.underlying48 k hk
    rw [now_look hm hA hB] at this
    exact this
  · exact Sp.Hp.jmapLen (jmid (h.pull 1 rfl)) Try.underlying49 ty
theorem now_not (h : Hp o w (mapT 9 elM M W.length c (lookL (nwL W)) :: l)) (hp : k ∉ keysL (plainN W)) (hk : k.size ≤ maxLen) :
    (Instr.lookup 48 (.map (some M)) (.string k) false).run Try.prog w = .ok (.map none) w := by
  have := Sp.Hp.mapLook (T := 48) h Try.underlying9 Try.underlying48 k hk
  rw [now_none hp] at this
  exact this
/-- delete of the first row's key. -/
theorem now_del {ids : List Int} {S' : Rows} (h : Hp o w (mapT 9 elM M W.length c (lookL (nwL W)) :: star (W.map jT) :: l)) (hI : NowI S W i c) (hS : S = (k, ids) :: S') (hok : Ok S) (hk : k.size ≤ maxLen) (hg : oo.guard = none) (mo x : Operand) (hop : oo.op = Op.call { callee := Callee.builtin Builtin.delete, args := #[mo, x], argTypes := #[48, 9] }) (hm : a.eval mo = .map (some M)) (hx : a.eval x = .string k)
    (K : ∀ w' W', Hid (NowI S' W' i c) → Hp o w' (mapT 9 elM M W'.length c (lookL (nwL W')) :: star (W'.map jT) :: l) → wpList Try.prog ops Q rest (a.put oo.dst (.tuple #[])) w') : wpList Try.prog ops Q (oo :: rest) a w := by
  subst hS
  have hmid : Mid k ([] : Rows) S' := (show Ok ([] ++ (k, ids) :: S') from hok).mid
  obtain ⟨LA, b, c', LB, rfl, hA, hB⟩ := plainN_mid (A := []) hI.pl
  obtain rfl : LA = [] := by cases LA with
    | nil => rfl
    | cons p q => unfold plainN at hA; simp at hA
  have hms := mid_nw (LA := []) hmid rfl hB
  refine Sp.Hp.mapDel h hg mo x 48 _ hop rfl Try.underlying9 Try.underlying48 hm k hx hk LB.length ?_ ?_
  · rw [nwL_mid, look_mid hms]
    show LB.length + 1 - 1 = _
    omega
  · intro w1 h1
    rw [nwL_mid, set_del hms] at h1
    refine K w1 LB (Lib.hid ⟨hB, hI.c, fun r hr => hI.cs r (List.mem_append.2 (.inr (List.mem_cons_of_mem _ hr)))⟩) ?_
    have h2 := (jmid (LA := []) (h1.pull 1 rfl)).dropAt 0 rfl
    exact h2.swap
/-- A new key's map is put. -/
theorem now_new {W2 : Nl} (h : Hp o w (mapT 9 elM M W.length c (lookL (nwL W)) :: star (W.map jT) :: l)) (hI : NowI S W i c) (hW2 : W ++ [(k, ⟨[], w.heap.size, 0⟩)] = W2) (hin : k ∉ keysL S) (hk : k.size ≤ maxLen) (hi : i ≤ 1000) (hg : oo.guard = none) (mo x v : Operand) (hop : oo.op = Op.mapUpdate 48 mo x v) (hm : a.eval mo = .map (some M)) (hx : a.eval x = .string k) {b : Nat} (hv : a.eval v = .map (some b)) (hb : b = w.heap.size)
    (K : ∀ w', Hp o w' (mapT 9 elM M W2.length (c + 1) (lookL (nwL W2)) :: star (W2.map jT) :: l) → wpList Try.prog ops Q rest (a.put oo.dst undef) w') : wpList Try.prog ops Q (oo :: rest) a (w.alloc (.map #[] 0)) := by
  subst hb hW2
  have hkn : k ∉ keysL (nwL W) := by rw [plainN_keys, hI.pl]; exact hin
  have h1 := (h.jmapNew 3 elJ).pull 1 rfl
  refine Sp.Hp.mapPut h1 hg mo x v 48 hop Try.underlying9 Try.underlying48 hm k hx hk (some w.heap.size) hv True.intro (by have := hI.c; unfold maxLen; omega) (W.length + 1) ?_ ?_
  · rw [look_none hkn]; rfl
  · intro w1 h2
    rw [set_new hkn] at h2
    refine K w1 ?_
    have e : nwL (W ++ [(k, (⟨[], w.heap.size, 0⟩ : Nw))]) = nwL W ++ [(k, some w.heap.size)] := by rw [nwL_app]; rfl
    have hj : (fun _ => none : Int → Option Int) = hasN [] := by funext x; rfl
    rw [List.length_append, e, List.map_append]
    rw [hj] at h2
    have h3 := Sp.Hp.starEnd (t := jT (k, ⟨[], w.heap.size, 0⟩)) (h2.sel [1, 2] rfl)
    exact h3.swap
/-- A number is put to a key's map. -/
theorem now_put {ids : List Int} {LA LB W2 : Nl} {b c' : Nat} (h : Hp o w (mapT 9 elM M W.length c (lookL (nwL W)) :: star (W.map jT) :: l)) (hW : W = LA ++ (k, ⟨ids, b, c'⟩) :: LB) (hW2 : LA ++ (k, ⟨withI n ids, b, c' + 1⟩) :: LB = W2) (hu : Up ids) (hc : c' ≤ 1000) (hn : (Lit.int .i64 n).wf = true) (hg : oo.guard = none) (mo x v : Operand) (hop : oo.op = Op.mapUpdate 49 mo x v) (hm : a.eval mo = .map (some b)) (hx : a.eval x = .int .i64 n) (hv : a.eval v = .int .i64 1)
    (K : ∀ w', Hp o w' (mapT 9 elM M W2.length c (lookL (nwL W2)) :: star (W2.map jT) :: l) → wpList Try.prog ops Q rest (a.put oo.dst undef) w') : wpList Try.prog ops Q (oo :: rest) a w := by
  subst hW hW2
  refine Sp.Hp.jmapPut (jmid (h.pull 1 rfl)) hg mo x v 49 hop Try.underlying3 Try.underlying49 hm n hx hn 1 hv (show (Lit.int .i64 1).wf = true by decide) (show c' < maxLen by unfold maxLen; omega) (withI n ids).length (put_count hu n) ?_
  intro w1 h1
  rw [has_put] at h1
  refine K w1 ?_
  have h2 := jback (k := k) (r := ⟨withI n ids, b, c' + 1⟩) h1
  have eN : nwL (LA ++ (k, (⟨withI n ids, b, c' + 1⟩ : Nw)) :: LB) = nwL (LA ++ (k, (⟨ids, b, c'⟩ : Nw)) :: LB) := by rw [nwL_mid, nwL_mid]
  have eL : (LA ++ (k, (⟨withI n ids, b, c' + 1⟩ : Nw)) :: LB).length = (LA ++ (k, (⟨ids, b, c'⟩ : Nw)) :: LB).length := by rw [List.length_append, List.length_append, List.length_cons, List.length_cons]
  rw [eN, eL]
  exact h2.swap
end
end Go.Proofs.Ytkpcobaklbfpcaa.Ka
