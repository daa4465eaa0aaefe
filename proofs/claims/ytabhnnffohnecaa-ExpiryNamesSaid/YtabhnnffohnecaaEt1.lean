/- Package expiry: turns, a heap of places: as they lie; Len, Less. Conditions: as they lie. -/
import Derived.Test.YtabhnnffohnecaaEc4
import Derived.Deep.Quiet
namespace Go.Proofs.Ytabhnnffohnecaa.Ea
open Go.ChangeShapes Go.WideShapes Go.ChangeAt Go.RowKit
/-- The class of worlds that F names. -/
theorem wp_region_cls {P : Program} {id : Nat} {Q : Exit → Act → World → Prop} {a : Act} {w : World} {l : List Oper} {T : Type} (F : T → World) (hm : P.follows .mixedOrders = true) (hB : Region.lexB .any l.toArray = true)
    (h0 : ∃ x, w.drew = F x) (h : wpQuiet P l.toArray (fun w' => ∃ x, w' = F x) (fun a' => ∀ w', (∃ x, w' = F x) → Q .normal a' w') l a) : (Code.region id l.toArray true).wp P Q a w :=
  wp_region_quiet (C := fun w' => ∃ x, w' = F x) hm hB h0 (by simpa using h)
/-- All worlds in which what lay in w stands. -/
def Ovr (w : World) : Type := { x : World // Below w.heap.size w x }
instance (w : World) : Nonempty (Ovr w) := ⟨⟨w, Below.refl _ _⟩⟩
theorem ovr (w : World) : ∃ F : Ovr w → World, (∀ x, Below w.heap.size w (F x)) ∧ (∃ x, w.drew = F x) ∧ (∀ x w', Below (F x).heap.size (F x) w' → ∃ y, w' = F y) :=
  ⟨fun x => x.1, fun x => x.2, ⟨⟨w.drew, (Below.refl _ _).drew⟩, rfl⟩, fun x w' h => ⟨⟨w', x.2.trans (h.mono x.2.size)⟩, rfl⟩⟩
theorem q_ovr {P : Program} {f : FuncId} {args : Array Value} {w : World} {F : Ovr w → World} (hF : ∀ x w', Below (F x).heap.size (F x) w' → ∃ y, w' = F y) {x : Ovr w} {v : Value}
    (h : Calls P f args (F x) fun e w' => e = .returned v ∧ Below (F x).heap.size (F x) w') : Calls P f args (F x) fun e w' => e = .returned v ∧ ∃ y, w' = F y :=
  h.mono fun _ _ ⟨he, hb⟩ => ⟨he, hF _ _ hb⟩
def num (p : Nat) : Value := .int .i64 p
def RowN (B : Nat) (w : World) (v : Value) (ps : List Nat) : Prop := w.ownsRow B 3 1 v ps.length (ps.map num)
/-- The object turns in block t, made behind w0: of w0 all stands. -/
structure TAt (w0 : World) (t : Nat) (vh : Value) (l : List En) (w : World) (vp : Value) (ps : List Nat) : Prop where
  bel : Below w0.heap.size w0 w
  tb : w0.heap.size ≤ t
  c0 : w.cell? ⟨t, 0, none⟩ = some vh
  c1 : w.cell? ⟨t, 0 + 1, none⟩ = some vp
  ft : ∀ j, w.frozen? ⟨t, j, none⟩ = false
  row : RowN w0.heap.size w vp ps
  pt : vp.ownBlock ≠ some t
  bd : ∀ p ∈ ps, p < l.length
def enD : En := ⟨0, 0, ⟨#[]⟩⟩
/-- The order of places: that of their dues. -/
def ltT (l : List En) (i j : Nat) : Bool := ltN (l.getD i enD) (l.getD j enD)
theorem ordT (l : List En) : Ord (leB (ltT l)) := ⟨fun _ _ => ordN.total _ _, fun _ _ _ h k => ordN.trans _ _ _ h k⟩
theorem ltT_at {l : List En} {i j : Nat} (hi : i < l.length) (hj : j < l.length) : ltT l i j = ltN l[i] l[j] := by
  unfold ltT
  rw [List.getD_eq_getElem?_getD, List.getElem?_eq_getElem hi, List.getD_eq_getElem?_getD, List.getElem?_eq_getElem hj]; rfl
section
variable {w0 w w' : World} {t : Nat} {vh vp : Value} {l : List En} {ps : List Nat}
theorem RowN.form {B : Nat} (h : RowN B w vp ps) : ∃ a c, vp = .slice a ps.length c ∧ ps.length ≤ c ∧ c ≤ 9223372036854775807 ∧ ∀ i (hi : i < ps.length), ∃ g, a = some ⟨g, 0, none⟩ ∧ w.cell? ⟨g, i, none⟩ = some (num ps[i]) ∧ w.frozen? ⟨g, i, none⟩ = false ∧ B ≤ g := by
  have hr := h
  unfold RowN at hr
  rcases hr.2 with ⟨e, hn⟩ | ⟨g, cap, cur, e, hB, -, h1, h2, -, -⟩
  · exact ⟨none, 0, by rw [e, hn], by omega, Nat.zero_le _, fun i hi => absurd hi (by omega)⟩
  · subst e
    refine ⟨_, cap, rfl, h1, by unfold maxLen at h2; omega, fun i hi => ⟨g, rfl, ?_, hr.frozenAt i, hB⟩⟩
    rw [hr.cellAt i (by omega)]
    simp [hi]
theorem TAt.lt (h : TAt w0 t vh l w vp ps) : t < w.heap.size := World.block_lt_of_cell? w _ h.c0
theorem TAt.keep (h : TAt w0 t vh l w vp ps) (hb : Below w.heap.size w w') : TAt w0 t vh l w' vp ps := by
  have hT := hb.block t h.lt
  exact ⟨h.bel.trans (hb.mono h.bel.size), h.tb, (World.cell?_of_block (a := ⟨t, 0, none⟩) hT).trans h.c0, (World.cell?_of_block (a := ⟨t, 1, none⟩) hT).trans h.c1, fun j => (World.frozen?_of_block (a := ⟨t, j, none⟩) hT).trans (h.ft j), row_block h.row fun g hg => hb.block g (row_lt h.row hg), h.pt, h.bd⟩
end
set_option maxHeartbeats 4000000 in
set_option maxRecDepth 100000 in
theorem tlen_calls {w0 w : World} {t : Nat} {vh vp : Value} {l : List En} {ps : List Nat} (h : TAt w0 t vh l w vp ps) :
    Calls Try.prog 52 #[.pointer (some ⟨t, 0, none⟩)] w fun e w' => e = .returned (.int .i64 ps.length) ∧ w = w' := by
  obtain ⟨a, c, rfl, -, -, -⟩ := h.row.form
  have c1 := h.c1
  clear h
  go_enter Try.func52, Try.ntmps52
  go_wp2_with fail
  go_ret
  exact ⟨rfl, rfl⟩
set_option maxHeartbeats 4000000 in
set_option maxRecDepth 100000 in
theorem tless_calls {w0 w : World} {t : Nat} {vh vp : Value} {l : List En} {ps : List Nat} (hh : HpAt w0 vh l) (h : TAt w0 t vh l w vp ps) (i j : Nat) (hi : i < ps.length) (hj : j < ps.length) :
    Calls Try.prog 53 #[.pointer (some ⟨t, 0, none⟩), .int .i64 i, .int .i64 j] w fun e w' => e = .returned (.bool (ltT l ps[i] ps[j])) ∧ TAt w0 t vh l w' vp ps ∧ Below w.heap.size w w' := by
  have HH := Lib.hid h
  have hbi := h.bd _ (List.getElem_mem hi)
  have hbj := h.bd _ (List.getElem_mem hj)
  have HL : Hid (∀ W, Below w.heap.size w W → Calls Try.prog 48 #[vh, .int .i64 ps[i], .int .i64 ps[j]] W fun e w' => e = .returned (.bool (ltT l ps[i] ps[j])) ∧ Below W.heap.size W w') := Lib.hid fun W hW => by
    rw [ltT_at hbi hbj]
    exact hless_calls (hh.below (h.bel.trans (hW.mono h.bel.size))) _ _ hbi hbj
  obtain ⟨a, c, rfl, -, -, hat⟩ := h.row.form
  obtain ⟨g, rfl, d0, -, -⟩ := hat i hi
  obtain ⟨g', e, d1, -, -⟩ := hat j hj
  cases e
  have c0 := h.c0
  have c1 := h.c1
  have bi : (i : Int) < (ps.length : Int) := by omega
  have bj : (j : Int) < (ps.length : Int) := by omega
  clear hat h hh
  unfold num at d0 d1
  generalize ltT l ps[i] ps[j] = r at *
  generalize ps[i] = p at *
  generalize ps[j] = q at *
  obtain ⟨F, F1, F2, F3⟩ := ovr w
  have GF3 := Lib.hid F3
  have hc0 := fun x => (F1 x).cell (p := ⟨t, 0, none⟩) (World.block_lt_of_cell? w _ c0) |>.trans c0
  have hc1 := fun x => (F1 x).cell (p := ⟨t, 0 + 1, none⟩) (World.block_lt_of_cell? w _ c1) |>.trans c1
  have hd0 := fun x => (F1 x).cell (p := ⟨g, i, none⟩) (World.block_lt_of_cell? w _ d0) |>.trans d0
  have hd1 := fun x => (F1 x).cell (p := ⟨g, j, none⟩) (World.block_lt_of_cell? w _ d1) |>.trans d1
  have GQ := Lib.hid (fun x => HL.out (F x) (F1 x))
  have GB := Lib.hid F1
  clear c0 c1 d0 d1 F1 F3 HL
  generalize ps.length = n at *
  go_enter Try.func53, Try.ntmps53
  go_wp2_with fail
  refine wp_region_cls F (by kernel_rfl) (by kernel_rfl) F2 ?_
  repeat (go_big_quiet_step (first | (go_at_call 48; with_reducible exact q_ovr GF3.out (GQ.out _))))
  refine wpQuiet_nil ?_
  intro _ hw'
  obtain ⟨x2, hw9⟩ := hw'
  subst hw9
  go_wp2_with fail
  go_ret
  exact ⟨rfl, HH.out.keep (GB.out x2), GB.out x2⟩
end Go.Proofs.Ytabhnnffohnecaa.Ea
