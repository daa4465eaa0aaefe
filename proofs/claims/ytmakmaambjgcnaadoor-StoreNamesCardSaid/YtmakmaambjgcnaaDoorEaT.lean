/- Package expiry: turns, a heap of places: as they lie; Len, Less. Conditions: as they lie. -/
import Derived.Test.YtmakmaambjgcnaaDoorEaC
import Derived.Deep.Quiet
import Derived.Deep.RegionLawGrows
namespace Go.Proofs.YtmakmaambjgcnaaDoor.Ea
open Go.ChangeShapes Go.WideShapes Go.ChangeAt Go.RowKit
/-- The class of worlds that F names. -/
theorem wp_region_cls {P : Program} {id : Nat} {Q : Exit → Act → World → Prop} {a : Act} {w : World} {l : List Oper} {T : Type} (F : T → World) (hm : P.follows .mixedOrders = true) (hB : Region.lexB .any l.toArray = true)
    (h0 : ∃ x, w.drew = F x) (h : wpQuiet P l.toArray (fun w' => ∃ x, w' = F x) (fun a' => ∀ w', (∃ x, w' = F x) → Q .normal a' w') l a) : (Code.region id l.toArray true).wp P Q a w :=
  wp_region_quiet (C := fun w' => ∃ x, w' = F x) hm hB h0 (by simpa using h)
/-- All worlds in which what lay in w stands. -/
def Ovr (w : World) : Type := { x : World // Below w.heap.size w x }
instance (w : World) : Nonempty (Ovr w) := ⟨⟨w, Below.refl _ _⟩⟩
theorem ovr (w : World) : ∃ F : Ovr w → World, (∀ x, Below w.heap.size w (F x)) ∧ (∃ x, w.drew = F x) ∧ (∀ x w', Below (F x).heap.size (F x) w' → ∃ y, w' = F y) :=
  ⟨fun x => x.1, fun x => x.2, ⟨⟨w.drew, (Below.refl _ _).drew⟩, rfl⟩, fun x w' h => ⟨⟨w', x.2.trans (h.mono x.2.size)⟩, rfl⟩⟩
theorem q_ovr {P : Program} {f : FuncId} {args : Array Value} {w : World} {F : Ovr w → World} (hF : ∀ x w', Below (F x).heap.size (F x) w' → ∃ y, w' = F y) {x : Ovr w} {v : Value}
    (h : Calls P f args (F x) fun e w' => e = .returned v ∧ Below (F x).heap.size (F x) w') : Calls P f args (F x) fun e w' => e = .returned v ∧ ∃ y, w' = F y :=
  h.mono fun _ _ ⟨he, hb⟩ => ⟨he, hF _ _ hb⟩
def num (p : Nat) : Value := .int .i64 p
def RowN (B : Nat) (w : World) (v : Value) (ps : List Nat) : Prop := w.ownsRow B 3 1 v ps.length (ps.map num)
/-- The object turns in block t, made behind w0: of w0 all stands. -/
structure TAt (w0 : World) (t : Nat) (vh : Value) (l : List En) (w : World) (vp : Value) (ps : List Nat) : Prop where
  bel : Below w0.heap.size w0 w
  tb : w0.heap.size ≤ t
  c0 : w.cell? ⟨t, 0, none⟩ = some vh
  c1 : w.cell? ⟨t, 0 + 1, none⟩ = some vp
  ft : ∀ j, w.frozen? ⟨t, j, none⟩ = false
  row : RowN w0.heap.size w vp ps
  pt : vp.ownBlock ≠ some t
  bd : ∀ p ∈ ps, p < l.length
def enD : En := ⟨0, 0, ⟨#[]⟩⟩
/-- The order of places: that of their dues. -/
def ltT (l : List En) (i j : Nat) : Bool := ltN (l.getD i enD) (l.getD j enD)
theorem ordT (l : List En) : Ord (leB (ltT l)) := ⟨fun _ _ => ordN.total _ _, fun _ _ _ h k => ordN.trans _ _ _ h k⟩
theorem ltT_at {l : List En} {i j : Nat} (hi : i < l.length) (hj : j < l.length) : ltT l i j = ltN l[i] l[j] := by
  unfold ltT
  rw [List.getD_eq_getElem?_getD, List.getElem?_eq_getElem hi, List.getD_eq_getElem?_getD, List.getElem?_eq_getElem hj]; rfl
section
variable {w0 w w' : World} {t : Nat} {vh vp : Value} {l : List En} {ps : List Nat}
theorem RowN.form {B : Nat} (h : RowN B w vp ps) : ∃ a c, vp = .slice a ps.length c ∧ ps.length ≤ c ∧ c ≤ 9223372036854775807 ∧ ∀ i (hi : i < ps.length), ∃ g, a = some ⟨g, 0, none⟩ ∧ w.cell? ⟨g, i, none⟩ = some (num ps[i]) ∧ w.frozen? ⟨g, i, none⟩ = false ∧ B ≤ g := by
  have hr := h
  unfold RowN at hr
  rcases hr.2 with ⟨e, hn⟩ | ⟨g, cap, cur, e, hB, -, h1, h2, -, -⟩
  · exact ⟨none, 0, by rw [e, hn], by omega, Nat.zero_le _, fun i hi => absurd hi (by omega)⟩
  · subst e
    refine ⟨_, cap, rfl, h1, by unfold maxLen at h2; omega, fun i hi => ⟨g, rfl, ?_, hr.frozenAt i, hB⟩⟩
    rw [hr.cellAt i (by omega)]
    simp [hi]
theorem TAt.lt (h : TAt w0 t vh l w vp ps) : t < w.heap.size := World.block_lt_of_cell? w _ h.c0
theorem TAt.keep (h : TAt w0 t vh l w vp ps) (hb : Below w.heap.size w w') : TAt w0 t vh l w' vp ps := by
  have hT := hb.block t h.lt
  exact ⟨h.bel.trans (hb.mono h.bel.size), h.tb, (World.cell?_of_block (a := ⟨t, 0, none⟩) hT).trans h.c0, (World.cell?_of_block (a := ⟨t, 1, none⟩) hT).trans h.c1, fun j => (World.frozen?_of_block (a := ⟨t, j, none⟩) hT).trans (h.ft j), row_block h.row fun g hg => hb.block g (row_lt h.row hg), h.pt, h.bd⟩
end
end Go.Proofs.YtmakmaambjgcnaaDoor.Ea
/- Package expiry: turns: Swap, Push, Pop. Conditions: as they lie; bounds. -/
namespace Go.Proofs.YtmakmaambjgcnaaDoor.Ea
open Go.ChangeShapes Go.WideShapes Go.ChangeAt Go.RowKit
theorem swp_mapN {l : List Nat} {i j : Nat} (hi : i < l.length) (hj : j < l.length) : (swp l i j).map num = ((l.map num).set i (num l[j])).set j (num l[i]) := by
  unfold swp
  rw [dif_pos ⟨hi, hj⟩, List.map_set, List.map_set]
/-- What only the row's block and the object's have turned in. -/
theorem TAt.moved {w0 w w' : World} {t : Nat} {vh vp vp' : Value} {l : List En} {ps ps' : List Nat} (h : TAt w0 t vh l w vp ps) (hb : Below w0.heap.size w0 w') (h0 : w'.cell? ⟨t, 0, none⟩ = some vh) (h1 : w'.cell? ⟨t, 0 + 1, none⟩ = some vp') (hf : ∀ j, w'.frozen? ⟨t, j, none⟩ = false) (hr : RowN w0.heap.size w' vp' ps') (hp : vp'.ownBlock ≠ some t) (hd : ∀ p ∈ ps', p < l.length) : TAt w0 t vh l w' vp' ps' :=
  ⟨hb, h.tb, h0, h1, hf, hr, hp, hd⟩
theorem iInt : (Tryd.prog.info? 3).map (fun i => (i.zero, i.size, i.bytes)) = some (some (.int .i64 0), 1, 8) := by kernel_rfl
/-- An append, as one step of a region that draws its order, by an equation on its run. -/
theorem step_app {ops : Array Oper} {o : Oper} {a : Act} {K : Act → World → Prop} {Q : Exit → Act → World → Prop} {E : Prop} {W w' : World} {v y v' : Value} {T : TypeId} (hgd : o.guard = none) (s x : Operand)
    (ho : o.op = .call { callee := .builtin .append, args := #[s, x], argTypes := #[T, T] }) (hs : a.eval s = v) (hx : a.eval x = y) (hrun : (Builtin.append_ #[T, T] o.type #[v, y]).run Tryd.prog W = .ok v' w')
    (h : K (a.put o.dst v') w') : if Region.wanted o (yielded ops a.tmps) = true then Oper.wp Tryd.prog o a W K Q else E := by
  have hw : Region.wanted o (yielded ops a.tmps) = true := by simp [Region.wanted, hgd]
  rw [if_pos hw]
  unfold Oper.wp
  simp [execOp, ho, resolve, invoke, builtin, hs, hx, hrun, Result.andThen]
  exact h
end Go.Proofs.YtmakmaambjgcnaaDoor.Ea
