/- A walk's stack and its list side by side, in memory. No condition. -/
import Derived.Test.YtjfcdkmnccafaaaPbm
namespace Go.Proofs.Ytjfcdkmnccafaaa.Pb
open Go.RowKit Go.Shelf
theorem row_ge {W : World} {B : Nat} {e : TypeId} {s n : Nat} {v : Value} {xs : List Value} (h : W.ownsRow B e s v n xs) : ∀ j, v.ownBlock = some j → B ≤ j ∧ ∃ cur, W.heap[j]? = some (.cells cur e (0, 0)) := by
  intro j hj
  rcases h.2 with ⟨rfl, _⟩ | ⟨g, cap, cur, rfl, hb, hg, _⟩
  · cases hj
  · have e1 : g = j := by
      have h1 : some g = some j := hj
      injection h1
    subst e1
    exact ⟨hb, cur, hg⟩
theorem row_mono {W : World} {B B' : Nat} {e : TypeId} {s n : Nat} {v : Value} {xs : List Value} (hB : B' ≤ B) (h : W.ownsRow B e s v n xs) : W.ownsRow B' e s v n xs := by
  refine ⟨h.1, ?_⟩
  rcases h.2 with h' | ⟨g, cap, cur, e1, hb, r⟩
  · exact .inl h'
  · exact .inr ⟨g, cap, cur, e1, Nat.le_trans hB hb, r⟩
theorem rows_apart {W : World} {B B' : Nat} {e e' : TypeId} {s s' n n' : Nat} {v v' : Value} {xs xs' : List Value} (h : W.ownsRow B e s v n xs) (h' : W.ownsRow B' e' s' v' n' xs') (hte : e ≠ e') : v.ownBlock = none ∨ v.ownBlock ≠ v'.ownBlock := by
  cases hv : v.ownBlock with
  | none => exact .inl rfl
  | some j =>
    refine .inr fun e1 => ?_
    obtain ⟨-, cur, h1⟩ := row_ge h j hv
    obtain ⟨-, cur', h2⟩ := row_ge h' j e1.symm
    rw [h1] at h2
    injection h2 with h2
    injection h2 with _ h2 _
    exact hte h2
theorem below_grown {B : Nat} {W W' : World} {row : Option Nat} (hg : W.grownBy W' row) (hB : B ≤ W.heap.size) (hr : ∀ j, row = some j → B ≤ j) : Below B W W' := ⟨hg.os, hg.tape, hg.output, hg.size, fun k hk => hg.block k (Nat.lt_of_lt_of_le hk hB) (fun e => by have := hr k e.symm; omega)⟩
theorem Rec.grown {W W' : World} {B : Nat} {ds : List Nat} {row : Option Nat} (h : Rec W B ds) (hg : W.grownBy W' row) (hr : ∀ j, row = some j → ∃ cur e, W.heap[j]? = some (.cells cur e (0, 0))) : Rec W' B ds := h.keep fun D hD => hg.block D (h.lt hD) (fun e => by
  obtain ⟨cur, e2, h1⟩ := hr D e.symm
  rw [(h.at_ D hD).2] at h1
  cases h1)
/-- What stands between two rounds. -/
structure WS (w1 wr : World) (ds : List Nat) (u : Value) (out : List Pa.Mk) (st : List Nat) (vst : Value) : Prop where
  bel : Below w1.heap.size w1 wr
  row : wr.ownsRow w1.heap.size 45 2 u out.length (Pa.cellsM out)
  box : Boxed wr (w1.heap.size + 1) 47 vst
  srow : wr.ownsRow w1.heap.size 46 1 vst st.length (st.map ptr)
  rcs : Rec wr w1.heap.size ds
variable {w1 W w' : World} {ds : List Nat} {u v v' : Value} {out : List Pa.Mk} {st : List Nat} {tmp : Obj}
theorem WS.on (h : WS w1 W ds u out st v) (hb : Below W.heap.size W w') : WS w1 w' ds u out st v :=
  ⟨h.bel.trans (hb.mono h.bel.size), h.row.kept (grow0 hb) (by cases u.ownBlock <;> simp), h.box.kept (grow0 hb) (by simp), h.srow.kept (grow0 hb) (by cases v.ownBlock <;> simp), h.rcs.grown (grow0 hb) (fun j e => by cases e)⟩
theorem WS.more (h : WS w1 W ds u out st v) (o : Obj) : WS w1 (W.alloc o) ds u out st v := h.on ((Below.refl _ W).alloc (Nat.le_refl _) o)
theorem WS.pop {c k cap g : Nat} (h : WS w1 W ds u out (st ++ [c]) (.slice (some ⟨g, 0, none⟩) (k + 1) cap)) (hk : st.length = k) : WS w1 (W.setCell ⟨w1.heap.size + 1, 0, none⟩ (.slice (some ⟨g, 0, none⟩) k cap)) ds u out st (.slice (some ⟨g, 0, none⟩) k cap) := by
  have hg := grownBy_setCell' W (w1.heap.size + 1) (.slice (some ⟨g, 0, none⟩) k cap)
  have hs := h.srow
  rw [List.length_append, List.length_singleton, hk] at hs
  have hc := ownsRow_cut hs (k := k) (by omega)
  have e1 : ((st ++ [c]).map ptr).take (k * 1) = st.map ptr := by rw [Nat.mul_one, List.map_append, List.take_left' (by simp [hk])]
  rw [e1] at hc
  exact ⟨h.bel.setCell (p := ⟨w1.heap.size + 1, 0, none⟩) (Nat.le_succ _) _, h.row.kept hg (.inr (h.box.not_row (by decide) h.row).symm), h.box.set _, by rw [hk]; exact hc.kept hg (.inr (h.box.not_row (by decide) hc).symm), h.rcs.grown hg (fun j e => by cases e; exact ⟨_, _, h.box⟩)⟩
theorem WS.pushM {m : Pa.Mk} (h : WS w1 W ds u out st v) (hown : w'.ownsRow w1.heap.size 45 2 v' (out.length + 1) (Pa.cellsM (out ++ [m]))) (hg : (W.alloc tmp).grownBy w' u.ownBlock) : WS w1 w' ds v' (out ++ [m]) st v := by
  have ha := h.more tmp
  have hr := row_ge ha.row
  exact ⟨ha.bel.trans (below_grown hg ha.bel.size (fun j e => (hr j e).1)), by rw [List.length_append]; exact hown, ha.box.kept hg (ha.box.not_row (by decide) ha.row), ha.srow.kept hg (rows_apart ha.srow ha.row (by decide)), ha.rcs.grown hg (fun j e => by
    obtain ⟨-, c, h1⟩ := hr j e
    exact ⟨c, _, h1⟩)⟩
theorem WS.pushS {c : Nat} (h : WS w1 W ds u out st v) (hown : w'.ownsRow w1.heap.size 46 1 v' (st.length + 1) ((st ++ [c]).map ptr)) (hg : (W.alloc tmp).grownBy w' v.ownBlock) :
    Boxed w' (w1.heap.size + 1) 47 v ∧ KeepsOthers W (w'.setCell ⟨w1.heap.size + 1, 0, none⟩ v') ∧ Below w1.heap.size W (w'.setCell ⟨w1.heap.size + 1, 0, none⟩ v') ∧ WS w1 (w'.setCell ⟨w1.heap.size + 1, 0, none⟩ v') ds u out (st ++ [c]) v' := by
  obtain ⟨a1, a2, a3, a4, a5⟩ := h.box.appended (by decide) h.srow h.bel.size (Nat.le_succ _) hown hg
  have ha := h.more tmp
  have hu1 := ha.row.kept hg (rows_apart ha.row ha.srow (by decide))
  have hg2 := grownBy_setCell' w' (w1.heap.size + 1) v'
  have hr := row_ge ha.srow
  exact ⟨a1, a4, a5, ⟨h.bel.trans a5, hu1.kept hg2 (.inr (a1.not_row (by decide) hu1).symm), a2, by rw [List.length_append]; exact a3, (ha.rcs.grown hg (fun j e => by
    obtain ⟨-, c, h1⟩ := hr j e
    exact ⟨c, _, h1⟩)).grown hg2 (fun j e => by cases e; exact ⟨_, _, a1⟩)⟩⟩
theorem WS.pushBox {Bs : Nat} {x : Value} (h : WS w1 W ds u out st v) (hx : Boxed W Bs 47 x) (hne : Bs ≠ w1.heap.size + 1) (hg : (W.alloc tmp).grownBy w' v.ownBlock) : Boxed (w'.setCell ⟨w1.heap.size + 1, 0, none⟩ v') Bs 47 x :=
  ((hx.alloc tmp).kept hg ((hx.alloc tmp).not_row (by decide) (h.more tmp).srow)).kept (grownBy_setCell' w' (w1.heap.size + 1) v') (by simp [hne])
theorem WS.own {α : Type} {B : Nat} (hB : w1.heap.size ≤ B) (hd : ∀ D ∈ ds, D < B) (F : α → List Nat) : OwnFrom B (fun s W => ∃ v, WS w1 W ds u out (F s) v) := by
  rintro s W W' row ⟨v, h⟩ hg hr
  have hnc : ∀ {b : Nat} {cur : Array Value} {e : TypeId}, W.heap[b]? = some (.cells cur e (0, 0)) → some b ≠ row := fun hb e' => by
    obtain ⟨-, o, ho, hc⟩ := hr _ e'.symm
    rw [hb] at ho
    cases ho
    cases hc
  have hrow : ∀ {e : TypeId} {s n : Nat} {v : Value} {xs : List Value}, W.ownsRow w1.heap.size e s v n xs → v.ownBlock = none ∨ v.ownBlock ≠ row := fun {e s n v xs} h1 => by
    cases hv : v.ownBlock with
    | none => exact .inl rfl
    | some j =>
      obtain ⟨-, cur, h2⟩ := row_ge h1 j hv
      exact .inr (hnc h2)
  exact ⟨v, h.bel.trans (below_grown hg h.bel.size (fun j e => Nat.le_trans hB (hr j e).1)), h.row.kept hg (hrow h.row), h.box.kept hg (hnc h.box), h.srow.kept hg (hrow h.srow), h.rcs.keep fun D hD => hg.block D (h.rcs.lt hD) (fun e => by
    have := (hr D e.symm).1
    have := hd D hD
    omega)⟩
theorem WS.rec_ (h : WS w1 W ds u out st v) {D : Nat} (hD : D ∉ ds) (hB : w1.heap.size ≤ D) (hK : W.heap[D]? = some (.deferred (some []))) : WS w1 W (D :: ds) u out st v := ⟨h.bel, h.row, h.box, h.srow, h.rcs.more hD hB hK⟩
end Go.Proofs.Ytjfcdkmnccafaaa.Pb
