/- A region that draws its order and whose callees make memory, walked once: the library's theorem over a class of worlds, at the class 'what lay there stands'. -/
import Derived.Test.YtlebpaneignfaaaDoorVc1
import Derived.Deep.Quiet
namespace Go.Proofs.YtlebpaneignfaaaDoor
open Go.ChangeShapes Go.WideShapes Go.ChangeAt Go.RowKit

/-- The class: the worlds that F names. -/
theorem wp_region_class {P : Program} {id : Nat} {Q : Exit → Act → World → Prop} {a : Act} {w : World} {l : List Oper} {T : Type} (F : T → World) (hm : P.follows .mixedOrders = true) (hB : Region.lexB .any l.toArray = true)
    (h0 : ∃ x, w.drew = F x) (h : wpQuiet P l.toArray (fun w' => ∃ x, w' = F x) (fun a' => ∀ w', (∃ x, w' = F x) → Q .normal a' w') l a) : (Code.region id l.toArray true).wp P Q a w :=
  wp_region_quiet (C := fun w' => ∃ x, w' = F x) hm hB h0 (by simpa using h)
/-- All worlds in which what lay in w stands. -/
def Over (w : World) : Type := { x : World // Below w.heap.size w x }
instance (w : World) : Nonempty (Over w) := ⟨⟨w, Below.refl _ _⟩⟩
theorem over (w : World) : ∃ F : Over w → World, (∀ x, Below w.heap.size w (F x)) ∧ (∃ x, w.drew = F x) ∧ (∀ x w', Below (F x).heap.size (F x) w' → ∃ y, w' = F y) ∧ (∀ x, F x = x.1) :=
  ⟨fun x => x.1, fun x => x.2, ⟨⟨w.drew, (Below.refl _ _).drew⟩, rfl⟩, fun x w' h => ⟨⟨w', x.2.trans (h.mono x.2.size)⟩, rfl⟩, fun _ => rfl⟩
/-- A call of the class whose contract lets new blocks be made. -/
theorem quiet_over {P : Program} {f : FuncId} {args : Array Value} {w : World} {F : Over w → World} (hF : ∀ x w', Below (F x).heap.size (F x) w' → ∃ y, w' = F y) {x : Over w} {v : Value}
    (h : Calls P f args (F x) fun e w' => e = .returned v ∧ Below (F x).heap.size (F x) w') : Calls P f args (F x) fun e w' => e = .returned v ∧ ∃ y, w' = F y :=
  h.mono fun _ _ ⟨he, hb⟩ => ⟨he, hF _ _ hb⟩
/-- .. whose contract says that the world is as it was. -/
theorem quiet_same {P : Program} {f : FuncId} {args : Array Value} {w : World} {F : Over w → World} {x : Over w} {v : Value}
    (h : Calls P f args (F x) fun e w' => e = .returned v ∧ F x = w') : Calls P f args (F x) fun e w' => e = .returned v ∧ ∃ y, w' = F y :=
  h.mono fun _ _ ⟨he, hb⟩ => ⟨he, x, hb.symm⟩

def bigB : List UInt8 → Bool
  | 45 :: l => !l.isEmpty && l.all fun b => decide (48 ≤ b.toNat ∧ b.toNat ≤ 57)
  | l => !l.isEmpty && l.all fun b => decide (48 ≤ b.toNat ∧ b.toNat ≤ 57)
def textB (k : Int) (t : List UInt8) : Bool :=
  decide (t.length ≤ 4096) && (if k = 1 ∨ k = 2 then !(t.any fun b => b == 13 || b == 10) else if k = 4 ∨ k = 10 then true else if k = 9 then bigB t
    else if k = 11 then decide (4 ≤ t.length) && t.getD 3 0 == 58 else if 3 ≤ k ∧ k ≤ 14 then t.isEmpty else false)
def Val.kind : Val → Int
  | .no => 0
  | .mk k _ _ _ _ _ _ _ _ => k
def good : Val → Nat → Bool
  | .no, _ => false
  | .mk k t z r f _ _ n K, d => ownB k z r f && textB k t.data.toList && listB k n && !(lists k && d == 0) && allTo (fun i => (K i).kind != 14 && good (K i) (d - 1)) n

def Righted (v : Val) (d left L : Nat) (w : World) (e : Ending) (w' : World) : Prop :=
  ∃ x : Int, e = .returned (.bool (good v d && decide (v.count ≤ left))) ∧ Below L w w' ∧ w'.cell? ⟨L, 0, none⟩ = some (.int .i64 x) ∧ w'.frozen? ⟨L, 0, none⟩ = false ∧ L < w'.heap.size ∧ (good v d = true → v.count ≤ left → x = ((left - v.count : Nat) : Int))

/-- The test at the head of isRight: how it ends where left is at least one. -/
def headB (k : Int) (t : ByteArray) (z : Int) (r : Nat) (f : Bool) (n : Nat) : Bool := ownB k z r f && textB k t.data.toList && listB k n
end Go.Proofs.YtlebpaneignfaaaDoor
