/- The tree as it lies; the byte that goes on; find's parts. No condition but bounds. -/
import Derived.Test.YtjfcdkmnccafaaaPb1
import Derived.Test.YtjfcdkmnccafaaaRows
import Derived.WalkKit
import Derived.ProofKit
import Derived.OpenShut
import Derived.WalkSmall
import Derived.WalkSpells
import Derived.WalkLawsBesides
import Derived.Outline
import Derived.Lib.Hide
import Derived.Deep.RegionWith
import Derived.Deep.LoopGhost
import Derived.OwnWalk
import Derived.IntWalk
import Derived.Laws.AppendOwn
import Derived.Laws.IdiomStrings
import Derived.Lib.Strings
import Derived.Laws.Shifts
import Derived.Deep.QuietTactic
import Derived.BigQuiet
namespace Go.Proofs.Ytjfcdkmnccafaaa.Pb
open Go.ChangeShapes Go.WideShapes Go.ChangeAt Go.RowKit
theorem bstep {a b c : World} (h : Below a.heap.size a b) (k : Below b.heap.size b c) : Below a.heap.size a c := h.trans (k.mono h.size)
theorem bbox {w : World} (o : Obj) : Below w.heap.size w (w.alloc o) := (Below.refl _ _).alloc (Nat.le_refl _) o
theorem bdrew (w : World) (n : Nat) : Below w.heap.size w (w.drewN n) := below_drewN (Below.refl _ _) n
/-- A text as bytes of the program's. -/
def bs (l : T) : ByteArray := ⟨l.toArray⟩
theorem bs_size (l : T) : (bs l).size = l.length := by simp [bs, ByteArray.size]
theorem bs_data (k : ByteArray) : bs k.data.toList = k := by cases k; simp [bs]
theorem data_bs (l : T) : (bs l).data.toList = l := by simp [bs]
theorem bs_toList (l : T) : (bs l).toList = l := by rw [ByteArray.toList_eq, data_bs]
theorem bs_get (l : T) (i : Nat) (h : i < (bs l).size) : (bs l)[i] = l[i]'(by rw [bs_size] at h; exact h) := by
  show (bs l).data[i]'(h) = _
  simp [bs]
theorem bs_inj {a b : T} (h : bs a = bs b) : a = b := by rw [← data_bs a, ← data_bs b, h]
/-- A node as it lies. -/
structure NdAt (w : World) (b : Nat) (tx : T) (m : Option Int) (v : Value) : Prop where
  c0 : w.cell? ⟨b, 0, none⟩ = some (.string (bs tx))
  c1 : w.cell? ⟨b, 1, none⟩ = some (.bool m.isSome)
  c2 : w.cell? ⟨b, 2, none⟩ = some (.int .i64 (m.getD 0))
  c3 : w.cell? ⟨b, 3, none⟩ = some v
  fz : ∀ j, w.frozen? ⟨b, j, none⟩ = false
theorem NdAt.lt {w : World} {b : Nat} {tx : T} {m : Option Int} {v : Value} (h : NdAt w b tx m v) : b < w.heap.size := World.block_lt_of_cell? w _ h.c0
theorem NdAt.keep {w w' : World} {b : Nat} {tx : T} {m : Option Int} {v : Value} (h : NdAt w b tx m v) (e : w'.heap[b]? = w.heap[b]?) : NdAt w' b tx m v :=
  ⟨(World.cell?_of_block (a := ⟨b, 0, none⟩) e).trans h.c0, (World.cell?_of_block (a := ⟨b, 1, none⟩) e).trans h.c1, (World.cell?_of_block (a := ⟨b, 2, none⟩) e).trans h.c2, (World.cell?_of_block (a := ⟨b, 3, none⟩) e).trans h.c3, fun j => (World.frozen?_of_block (a := ⟨b, j, none⟩) e).trans (h.fz j)⟩
def ptr (b : Nat) : Value := .pointer (some ⟨b, 0, none⟩)
/-- A row of nodes as it lies. -/
def KsAt (w : World) (v : Value) (l : List Nat) : Prop := w.ownsRow 0 46 1 v l.length (l.map ptr)
theorem KsAt.keep {w w' : World} {v : Value} {l : List Nat} (h : KsAt w v l) (e : ∀ g, v.ownBlock = some g → w'.heap[g]? = w.heap[g]?) : KsAt w' v l := by
  refine ⟨h.1, ?_⟩
  rcases h.2 with h2 | ⟨g, cap, cur, rfl, h1, h2, h3⟩
  · exact .inl h2
  · exact .inr ⟨g, cap, cur, rfl, h1, (e g rfl).trans h2, h3⟩
theorem KsAt.slice {w : World} {v : Value} {l : List Nat} (h : KsAt w v l) : ∃ a c, v = .slice a l.length c ∧ l.length ≤ c ∧ c ≤ maxLen ∧ ∀ i (hi : i < l.length), ∃ g, a = some ⟨g, 0, none⟩ ∧ g < w.heap.size ∧ w.cell? ⟨g, i, none⟩ = some (ptr l[i]) := by
  rcases h.2 with ⟨rfl, hn⟩ | ⟨g, cap, cur, rfl, hg, hh, h1, h2, h3, h4⟩
  · exact ⟨none, 0, by rw [hn], by omega, Nat.zero_le _, fun i hi => absurd hi (by omega)⟩
  · refine ⟨some ⟨g, 0, none⟩, cap, rfl, h1, h2, fun i hi => ⟨g, rfl, (Array.getElem?_eq_some_iff.1 hh).1, ?_⟩⟩
    have e1 : (cur.toList.take (l.length * 1))[i]? = cur.toList[i]? := List.getElem?_take_of_lt (by omega)
    rw [h4] at e1
    have e2 : (l.map ptr)[i]? = some (ptr l[i]) := by simp [hi]
    rw [e2] at e1
    simp only [World.cell?, hh]
    simpa using e1.symm
/-- The nodes of a tree as they lie; vs: each one's row. -/
structure TrAt (w : World) (t : Tr) (vs : Nat → Value) : Prop where
  nod : ∀ b ∈ t.B, NdAt w b (t.tx b) (t.nm b) (vs b)
  row : ∀ b ∈ t.B, KsAt w (vs b) (t.ks b)
  rap : ∀ b ∈ t.B, ∀ c ∈ t.B, ∀ g, (vs b).ownBlock = some g → (vs c).ownBlock = some g → b = c
  rno : ∀ b ∈ t.B, ∀ g, (vs b).ownBlock = some g → g ∉ t.B
/-- The blocks of nodes and rows. -/
def ownT (t : Tr) (vs : Nat → Value) (x : Nat) : Prop := x ∈ t.B ∨ ∃ b ∈ t.B, (vs b).ownBlock = some x
theorem KsAt.lt {w : World} {v : Value} {l : List Nat} (h : KsAt w v l) {g : Nat} (hg : v.ownBlock = some g) : g < w.heap.size := by
  rcases h.2 with ⟨rfl, hn⟩ | ⟨g', cap, cur, rfl, -, hh, -⟩
  · cases hg
  · cases hg
    exact (Array.getElem?_eq_some_iff.1 hh).1
theorem TrAt.lt {w : World} {t : Tr} {vs : Nat → Value} (h : TrAt w t vs) {x : Nat} (hx : ownT t vs x) : x < w.heap.size := by
  rcases hx with hx | ⟨b, hb, e⟩
  · exact (h.nod x hx).lt
  · exact (h.row b hb).lt e
theorem TrAt.keep {w w' : World} {t : Tr} {vs : Nat → Value} (h : TrAt w t vs) (e : ∀ x, ownT t vs x → w'.heap[x]? = w.heap[x]?) : TrAt w' t vs :=
  ⟨fun b hb => (h.nod b hb).keep (e b (.inl hb)), fun b hb => (h.row b hb).keep fun g hg => e g (.inr ⟨b, hb, hg⟩), h.rap, h.rno⟩
theorem TrAt.below {w w' : World} {t : Tr} {vs : Nat → Value} (h : TrAt w t vs) (hb : Below w.heap.size w w') : TrAt w' t vs := h.keep fun _ hx => hb.block _ (h.lt hx)
/-- -1, 0 or 1. -/
def cmpN (x y : Nat) : Int := if x < y then -1 else if y < x then 1 else 0
theorem cmpN_lt {x y : Nat} (h : x < y) : cmpN x y = -1 := if_pos h
theorem cmpN_gt {x y : Nat} (h : y < x) : cmpN x y = 1 := by unfold cmpN; rw [if_neg (by omega), if_pos h]
theorem cmpN_eq {x y : Nat} (h : x = y) : cmpN x y = 0 := by unfold cmpN; rw [if_neg (by omega), if_neg (by omega)]
set_option maxHeartbeats 4000000 in
theorem isNaN_calls (w : World) (x : Nat) :
    Calls Try.prog 48 #[.int .u8 x] w fun e w' => e = .returned (.bool false) ∧ w = w' := by
  go_enter Try.func48, Try.ntmps48
  go_wp2_with fail
  go_ret
  exact ⟨rfl, rfl⟩
set_option maxHeartbeats 4000000 in
theorem compare_calls (w : World) (x y : Nat) :
    Calls Try.prog 43 #[.int .u8 x, .int .u8 y] w fun e w' => e = .returned (.int .i64 (cmpN x y)) ∧ w = w' := by
  go_enter Try.func43, Try.ntmps43
  have HN := Lib.hid (fun x => isNaN_calls w x)
  go_wp2_with fail
  refine (HN.out x).mono ?_; rintro en w1 ⟨rfl, rfl⟩
  go_wp2_with fail
  refine (HN.out y).mono ?_; rintro en w1 ⟨rfl, rfl⟩
  rcases Nat.lt_trichotomy x y with h | h | h
  · have h1 : (x : Int) < (y : Int) := by omega
    go_wp2_with fail
    go_ret
    exact ⟨by rw [cmpN_lt h]; rfl, rfl⟩
  · have h1 : ¬ (x : Int) < (y : Int) := by omega
    have h2 : ¬ (y : Int) < (x : Int) := by omega
    go_wp2_with fail
    go_ret
    exact ⟨by rw [cmpN_eq h]; rfl, rfl⟩
  · have h1 : ¬ (x : Int) < (y : Int) := by omega
    have h2 : (y : Int) < (x : Int) := by omega
    go_wp2_with fail
    go_ret
    exact ⟨by rw [cmpN_gt h]; rfl, rfl⟩
end Go.Proofs.Ytjfcdkmnccafaaa.Pb
