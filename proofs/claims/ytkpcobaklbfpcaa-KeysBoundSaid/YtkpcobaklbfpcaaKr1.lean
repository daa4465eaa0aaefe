/- Layer 14, the checking package's Keys as a thing (refT); New, Ids, With. Conditions: bounds. -/
import Derived.Test.YtkpcobaklbfpcaaKba
import Derived.Test.YtkpcobaklbfpcaaSp8
namespace Go.Proofs.Ytkpcobaklbfpcaa.Ka
set_option linter.unusedVariables false
set_option linter.unusedSimpArgs false
open Go.ChangeShapes Go.WideShapes Go.ChangeAt Go.RowKit
open Sp (Th Hp Stays All Ro roT cellsT rowT exT puT star)
open Ca (inK inK_iff inK_false dropK dropK_none)
/-- Numbers at an address. -/
def AtI (w : World) (a : Option Addr) (l : List Int) : Prop := 0 < l.length → ∃ g, a = some ⟨g, 0, none⟩ ∧ ∀ j, j < l.length → w.cell? ⟨g, j, none⟩ = some (.int .i64 (l.getD j 0))
theorem AtI.below {w w' : World} {a : Option Addr} {l : List Int} (h : AtI w a l) (hb : Below w.heap.size w w') : AtI w' a l := fun hp => by
  obtain ⟨g, e, hc⟩ := h hp
  exact ⟨g, e, fun j hj => (hb.cell (p := ⟨g, j, none⟩) (World.block_lt_of_cell? w _ (hc j hj))).trans (hc j hj)⟩
/-- .. which no one writes. -/
def atRo (a : Option Addr) (l : List Int) : Ro :=
  ⟨fun R w => 0 < l.length → ∃ g, a = some ⟨g, 0, none⟩ ∧ R g ∧ ∀ j, j < l.length → w.cell? ⟨g, j, none⟩ = some (.int .i64 (l.getD j 0)),
   fun {R R' w w'} h hs hr hR hb hp => by
     obtain ⟨g, e, hg, hc⟩ := h hp
     exact ⟨g, e, hR g hg, fun j hj => by
       have := hc j hj
       simp only [World.cell?, hb g hg] at this ⊢
       exact this⟩⟩
/-- A row of the checking package: its numbers, where they lie. -/
structure Gw where
  ids : List Int
  a : Option Addr
  c : Nat
abbrev Gl := List (ByteArray × Gw)
def cells2 (r : ByteArray × Gw) : List Value := [.string r.1, .slice r.2.a r.2.ids.length r.2.c]
def cellsG (G : Gl) : List Value := G.flatMap cells2
def plainG (G : Gl) : Rows := G.map fun r => (r.1, r.2.ids)
def rowG (v : Value) (G : Gl) : Th := rowT 62 2 v G.length (cellsG G)
/-- All rows' numbers. -/
def allRo (G : Gl) : Ro := ⟨fun R w => ∀ r ∈ G, (atRo r.2.a r.2.ids).P R w, fun h hs hr hR hb r hx => (atRo r.2.a r.2.ids).keep (h r hx) hs hr hR hb⟩
def refT (B : Nat) (m : Int) (S : Rows) : Th := exT fun g : Gl × Value => puT (plainG g.1 = S ∧ Ok S) (star [cellsT B [g.2, .int .i64 m], rowG g.2 g.1, roT (allRo g.1)])
theorem cellsG_len : ∀ (G : Gl), (cellsG G).length = G.length * 2
  | [] => rfl
  | p :: G => by
    have := cellsG_len G
    show (cells2 p ++ cellsG G).length = _
    rw [List.length_append, this, List.length_cons]
    show 2 + _ = _
    omega
theorem cellsG_app (P Q : Gl) : cellsG (P ++ Q) = cellsG P ++ cellsG Q := List.flatMap_append ..
theorem cellsG_at : ∀ (P : Gl) (j : Nat) (hj : j < P.length) (r : Nat), r < 2 → (cellsG P)[j * 2 + r]? = (cells2 P[j])[r]?
  | [], j, hj, _, _ => absurd hj (Nat.not_lt_zero _)
  | p :: P, 0, _, r, hr => by
    show (cells2 p ++ cellsG P)[0 * 2 + r]? = (cells2 p)[r]?
    rw [Nat.zero_mul, Nat.zero_add, List.getElem?_append_left (by show r < 2; exact hr)]
  | p :: P, j + 1, hj, r, hr => by
    have := cellsG_at P j (by simpa using hj) r hr
    show (cells2 p ++ cellsG P)[(j + 1) * 2 + r]? = _
    rw [show (j + 1) * 2 + r = 2 + (j * 2 + r) by omega, List.getElem?_append_right (by show 2 ≤ _; omega)]
    show (cellsG P)[2 + (j * 2 + r) - 2]? = _
    rw [Nat.add_sub_cancel_left, this]
    rfl
theorem cellsG_one (P : Gl) : ∀ u ∈ cellsG P, u.oneCell' = true := fun u hu => by
  obtain ⟨p, _, hp⟩ := List.mem_flatMap.1 hu
  simp only [cells2, List.mem_cons, List.not_mem_nil, or_false] at hp
  rcases hp with rfl | rfl <;> rfl
theorem plainG_len (G : Gl) : (plainG G).length = G.length := List.length_map _
theorem plainG_at {G : Gl} {j : Nat} (hj : j < G.length) : (plainG G)[j]'(by rw [plainG_len]; exact hj) = (G[j].1, G[j].2.ids) := by unfold plainG; rw [List.getElem_map]
section
variable {o w w' wb : World} {l : List Th} {B : Nat} {m : Int} {S : Rows} {k : ByteArray} {ids : List Int} {v : Value}
theorem ref_open (h : Hp o w (refT B m S :: l)) : ∃ G v, plainG G = S ∧ Ok S ∧ Hp o w (cellsT B [v, .int .i64 m] :: rowG v G :: roT (allRo G) :: l) := by
  obtain ⟨⟨G, v⟩, h⟩ := h.ex
  obtain ⟨⟨h1, h2⟩, h⟩ := h.pu
  exact ⟨G, v, h1, h2, h.open⟩
theorem ref_shut {G : Gl} (h1 : plainG G = S) (h2 : Ok S) (h : Hp o w (cellsT B [v, .int .i64 m] :: rowG v G :: roT (allRo G) :: l)) : Hp o w (refT B m S :: l) :=
  Hp.mkEx (G, v) (Hp.mkPu ⟨h1, h2⟩ (Hp.shut (m := [cellsT B [v, .int .i64 m], rowG v G, roT (allRo G)]) h))
theorem ref_ok (h : Hp o w (refT B m S :: l)) : Ok S := by
  obtain ⟨G, v, -, h, -⟩ := ref_open h
  exact h
theorem iRow : (Try.prog.info? 62).map (fun i => (i.zero, i.size, i.bytes)) = some (some (.agg #[.string ⟨#[]⟩, .slice none 0 0]), 2, 40) := by kernel_rfl
theorem iInt : (Try.prog.info? 3).map (fun i => (i.zero, i.size, i.bytes)) = some (some (.int .i64 0), 1, 8) := by kernel_rfl
theorem rowG_at {G : Gl} {g c : Nat} (h : Hp o w (rowG (.slice (some ⟨g, 0, none⟩) G.length c) G :: l)) {j : Nat} (hj : j < G.length) :
    w.cell? ⟨g, j * 2, none⟩ = some (.string G[j].1) ∧ w.cell? ⟨g, j * 2 + 1, none⟩ = some (.slice G[j].2.a G[j].2.ids.length G[j].2.c) := by
  have h0 := cellsG_at G j hj 0 (by decide)
  have h1 := cellsG_at G j hj 1 (by decide)
  have k := fun r (hr : r < 2) => Hp.rowCell h (j := j * 2 + r) (by omega)
  exact ⟨by have := k 0 (by decide); rw [h0] at this; exact this, by have := k 1 (by decide); rw [h1] at this; exact this⟩
theorem ro_at {G : Gl} (h : Hp o w (roT (allRo G) :: l)) {j : Nat} (hj : j < G.length) : AtI w G[j].2.a G[j].2.ids := h.say fun hp _ _ hl => by
  obtain ⟨g, e, -, hc⟩ := hp.2 _ (List.getElem_mem hj) hl
  exact ⟨g, e, hc⟩
theorem at_ro {a : Option Addr} {ids : List Int} (h : Hp o w (roT (atRo a ids) :: l)) : AtI w a ids := h.say fun hp _ _ hl => by
  obtain ⟨g, e, -, hc⟩ := hp.2 hl
  exact ⟨g, e, hc⟩
theorem rowI_atI {a : Option Addr} {c : Nat} (h : Hp o w (rowI (.slice a ids.length c) ids :: l)) : AtI w a ids := fun hp => by
  rcases rowI_form h with ⟨e, e2⟩ | ⟨g, c', e, -⟩
  · rw [e2] at hp; exact absurd hp (Nat.lt_irrefl _)
  · injection e with e1 e2 e3
    subst e1
    exact ⟨g, rfl, fun j hj => rowI_at h hj⟩
/-- A row of numbers is written no more. -/
theorem rowI_give {a : Option Addr} {c : Nat} (h : Hp o w (rowI (.slice a ids.length c) ids :: l)) : Hp o w (roT (atRo a ids) :: l) := by
  have hA := rowI_atI h
  refine Hp.rowGive h (atRo a ids) fun {R} hR hl => ?_
  obtain ⟨g, e, hc⟩ := hA hl
  exact ⟨g, e, hR g (by rw [e]; rfl), hc⟩
theorem rowI_slice (h : Hp o w (rowI v ids :: l)) : ∃ a c, v = .slice a ids.length c ∧ ids.length ≤ c ∧ c ≤ 9223372036854775807 := by
  rcases rowI_form h with ⟨rfl, rfl⟩ | ⟨g, c, rfl, h1, h2⟩
  · exact ⟨none, 0, rfl, Nat.le_refl _, by decide⟩
  · exact ⟨_, c, rfl, h1, h2⟩
set_option maxHeartbeats 4000000 in
set_option maxRecDepth 100000 in
theorem rnew_calls (h : Hp o w l) (hw : Below w.heap.size w wb) (m : Int) :
    Calls Try.prog 8 #[.int .i64 m] wb fun e w' => ∃ B, e = .returned (ptr B) ∧ Hp o w' (refT B (max m 1) [] :: l) := by
  have H0 := Lib.hid ((h.bel hw).cellsNew [.slice none 0 0, .int .i64 (max m 1)] 39)
  clear h hw
  have key : ∀ W, Hp o W (cellsT wb.heap.size [.slice none 0 0, .int .i64 (max m 1)] :: l) → Hp o W (refT wb.heap.size (max m 1) [] :: l) := fun W hh => by
    have h1 := (hh.roNew (allRo []) (fun R r hr => (nomatch hr))).rowNil 62 2
    exact ref_shut (G := []) (v := .slice none 0 0) rfl Ok.nil (h1.sel [2, 0, 1] rfl)
  have HK := Lib.hid (key _ H0.out)
  clear H0 key
  unfold ptr
  by_cases hm : m < 1
  · have e : max m 1 = 1 := by omega
    rw [e] at HK ⊢
    go_enter Try.func8, Try.ntmps8
    go_wp2_with fail
    go_ret
    exact ⟨_, rfl, HK.out⟩
  · have e : max m 1 = m := by omega
    rw [e] at HK ⊢
    go_enter Try.func8, Try.ntmps8
    go_wp2_with fail
    go_ret
    exact ⟨_, rfl, HK.out⟩
/-- append of one number. -/
theorem iPush {ops : Array Oper} {rest : List Oper} {op : Oper} {a : Act} {Q : Exit → Act → World → Prop} (h : Hp o w (rowI v ids :: l)) (hgd : op.guard = none) (s x : Operand)
    (ho : op.op = .call { callee := .builtin .append, args := #[s, x], argTypes := #[30, 30] }) (hs : a.eval s = v) (n : Int) (hx : a.eval x = .slice (some ⟨w.heap.size, 0, none⟩) 1 1) (hn : ids.length ≤ 1000000)
    (K : ∀ v' w', Hp o w' (rowI v' (ids ++ [n]) :: l) → wpList Try.prog ops Q rest (a.put op.dst v') w') :
    wpList Try.prog ops Q (op :: rest) a (w.alloc (.cells #[.int .i64 n] 3)) := by
  obtain ⟨i0, hi, hz0, hz1, hz2⟩ := info_parts iInt
  refine Hp.rowPush h (Sp.bbox _) hgd s x 30 ho i0 _ 8 Try.underlying30 hi hz0 hz1 hz2 rfl (by decide) hs ⟨w.heap.size, 0, none⟩ 1 1 [.int .i64 n] hx rfl ?_ ?_ ?_ ?_ fun v' w' h' hst => ?_
  · intro j u hj
    rw [Addr.add_lit, Nat.zero_add, World.cell?_alloc_new]
    simpa using hj
  · intro u hu; rw [List.mem_singleton.1 hu]; rfl
  · unfold maxLen; omega
  · omega
  · refine K v' w' ?_
    unfold rowI
    rw [List.length_append]
    unfold ints
    rw [List.map_append]
    exact h'
end
end Go.Proofs.Ytkpcobaklbfpcaa.Ka
