/- Regions that draw their order, whose calls make memory alone: walked over all worlds in which what lay there stands. Of no program, no condition. -/
import Derived.Test.YtnmncjeplfkdpaaSpA
import Derived.Test.YtnmncjeplfkdpaaWq
import Derived.Test.YtnmncjeplfkdpaaWs
import Derived.Deep.Quiet
namespace Go.Proofs.Ytnmncjeplfkdpaa.Sp
open Go.ChangeShapes Go.WideShapes Go.ChangeAt Go.RowKit
/-- The class of worlds that F names. -/
theorem wp_region_cls {P : Program} {id : Nat} {Q : Exit → Act → World → Prop} {a : Act} {w : World} {l : List Oper} {T : Type} (F : T → World) (hm : P.follows .mixedOrders = true) (hB : Region.lexB .any l.toArray = true)
    (h0 : ∃ x, w.drew = F x) (h : wpQuiet P l.toArray (fun w' => ∃ x, w' = F x) (fun a' => ∀ w', (∃ x, w' = F x) → Q .normal a' w') l a) : (Code.region id l.toArray true).wp P Q a w :=
  wp_region_quiet (C := fun w' => ∃ x, w' = F x) hm hB h0 (by simpa using h)
/-- All worlds in which what lay in w stands. -/
def Ovr (w : World) : Type := { x : World // Below w.heap.size w x }
instance (w : World) : Nonempty (Ovr w) := ⟨⟨w, Below.refl _ _⟩⟩
theorem ovr (w : World) : ∃ F : Ovr w → World, (∀ x, Below w.heap.size w (F x)) ∧ (∃ x, w.drew = F x) ∧ (∀ x w', Below (F x).heap.size (F x) w' → ∃ y, w' = F y) :=
  ⟨fun x => x.1, fun x => x.2, ⟨⟨w.drew, (Below.refl _ _).drew⟩, rfl⟩, fun x w' h => ⟨⟨w', x.2.trans (h.mono x.2.size)⟩, rfl⟩⟩
theorem q_ovr {P : Program} {f : FuncId} {args : Array Value} {w : World} {F : Ovr w → World} (hF : ∀ x w', Below (F x).heap.size (F x) w' → ∃ y, w' = F y) {x : Ovr w} {v : Value}
    (h : Calls P f args (F x) fun e w' => e = .returned v ∧ Below (F x).heap.size (F x) w') : Calls P f args (F x) fun e w' => e = .returned v ∧ ∃ y, w' = F y :=
  h.mono fun _ _ ⟨he, hb⟩ => ⟨he, hF _ _ hb⟩
theorem q_same {P : Program} {f : FuncId} {args : Array Value} {w : World} {F : Ovr w → World} {x : Ovr w} {v : Value}
    (h : Calls P f args (F x) fun e w' => e = .returned v ∧ F x = w') : Calls P f args (F x) fun e w' => e = .returned v ∧ ∃ y, w' = F y :=
  h.mono fun _ _ ⟨he, hb⟩ => ⟨he, x, hb.symm⟩
theorem ovr_cell {w : World} {F : Ovr w → World} (hF : ∀ x, Below w.heap.size w (F x)) {b i : Nat} {v : Value} (h : w.cell? ⟨b, i, none⟩ = some v) : ∀ x, (F x).cell? ⟨b, i, none⟩ = some v := fun x => ((hF x).cell (p := ⟨b, i, none⟩) (World.block_lt_of_cell? w _ h)).trans h
/-- An append, as one step of a region that draws its order, by an equation on its run. -/
theorem step_app {P : Program} {ops : Array Oper} {o : Oper} {a : Act} {K : Act → World → Prop} {Q : Exit → Act → World → Prop} {E : Prop} {W w' : World} {v y v' : Value} {T : TypeId} (hgd : o.guard = none) (s x : Operand)
    (ho : o.op = .call { callee := .builtin .append, args := #[s, x], argTypes := #[T, T] }) (hs : a.eval s = v) (hx : a.eval x = y) (hrun : (Builtin.append_ #[T, T] o.type #[v, y]).run P W = .ok v' w')
    (h : K (a.put o.dst v') w') : if Region.wanted o (yielded ops a.tmps) = true then Oper.wp P o a W K Q else E := by
  have hw : Region.wanted o (yielded ops a.tmps) = true := by simp [Region.wanted, hgd]
  rw [if_pos hw]
  unfold Oper.wp
  simp [execOp, ho, resolve, invoke, builtin, hs, hx, hrun, Result.andThen]
  exact h
/-- append onto a row, as an equation on its run. -/
theorem rowRun {P : Program} {o w wb : World} {l : List Th} {e : TypeId} {size n : Nat} {v : Value} {xs : List Value} (h : Hp o w (rowT e size v n xs :: l)) (hw : Below w.heap.size w wb) (t ty : TypeId) (i : TypeInfo) (z : Value) (bytes : Nat) (ht : P.underlying t = some (.slice e)) (hi : P.info? e = some i) (hz : i.zero = some z)
    (hsize : i.size = size) (hby : i.bytes = bytes) (hzs : z.cells.size = size) (hsz : 0 < size)
    (ad : Addr) (m c : Nat) (news : List Value) (hl : news.length = m * size) (hnews : ∀ j u, news[j]? = some u → wb.cell? (ad.add j) = some u) (h1 : ∀ u ∈ news, u.oneCell' = true)
    (h63 : n + m ≤ maxLen) (hbytes : (n + m) * bytes ≤ 140737488355328) :
    ∃ a' c' w', (Builtin.append_ #[t, t] ty #[v, .slice (some ad) m c]).run P wb = .ok (.slice a' (n + m) c') w' ∧ Hp o w' (rowT e size (.slice a' (n + m) c') (n + m) (xs ++ news) :: l) ∧ Stays w wb w' := by
  have hb := h.bel hw
  obtain ⟨v', w', hr, g1, g2, -, g4⟩ := run_append_own_at (P := P) wb 0 t ty e i z size bytes ht hi hz hsize hby hzs hsz v n xs hb.row ad m c news hl hnews h1 h63 hbytes (Nat.zero_le _)
  have h9 := h.moved hw (w' := w') (ts := [rowT e size v' (n + m) (xs ++ news)]) fun {A R} k hA hR hAR => by
    refine mvd1 (A' := fun x => v'.ownBlock = some x) ⟨fun x => Iff.rfl, g1⟩ ⟨g2.os, g2.tape, g2.output, g2.size, fun i hi hn => g2.block i hi fun e => hn ((k.1 i).2 e.symm)⟩ (fun x hx => Nat.lt_of_lt_of_le (hR x hx) hw.size) hAR fun x hx => ?_
    rcases g4 with e | e
    · exact .inl ((k.1 x).2 (by rw [← e]; exact hx))
    · rw [e] at hx
      obtain rfl := Option.some.inj hx
      exact .inr (Nat.le_refl _)
  obtain ⟨a', c', rfl, -, -, -⟩ := h9.1.rowForm
  exact ⟨a', c', w', hr, h9.1, h9.2⟩
end Go.Proofs.Ytnmncjeplfkdpaa.Sp
