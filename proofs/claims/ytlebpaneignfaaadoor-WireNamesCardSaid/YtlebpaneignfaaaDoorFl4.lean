/- The digits of a number laid in an array, and those of them that count (numDigits, setDigits), over the translated program. Conditions: the tables hold what start-up lays. -/
import Derived.Test.YtlebpaneignfaaaDoorFl3
import Derived.Shelf.Strconv.Itoa2
import Derived.Lib.AppendIntMem
import Derived.Lib.ItoaLen
import Derived.Lib.OwnKind
import Derived.LoopTactic
import Derived.Laws.Rows
namespace Go.Proofs.YtlebpaneignfaaaDoor
open Go.ChangeShapes Go.WideShapes Go.ChangeAt Go.RowKit Go.Sort

theorem numDigits_calls (u : Nat) (h1 : 1 ≤ u) (h2 : u < 18446744073709551616) (w : World) (hc : TCtx w) :
    Calls Tryd.prog 33 #[.int .u64 u] w fun e w' => e = .returned (.int .i64 (Lib.nDigits u)) ∧ w = w' :=
  (Any.internal_strconv_numDigits Tryd.laysM284 u h1 h2 w hc.tab).mono fun _ _ ⟨a, b⟩ => ⟨a, b.symm⟩

/-- How many of the first k digits count: those up to the last that is no 0. -/
def stripTo (ds : List UInt8) : Nat → Nat
  | 0 => 0
  | k + 1 => if ds.getD k 0 = 48 then stripTo ds k else k + 1
theorem stripTo_le (ds : List UInt8) : ∀ k, stripTo ds k ≤ k
  | 0 => Nat.le_refl _
  | k + 1 => by
    unfold stripTo
    split
    · exact Nat.le_succ_of_le (stripTo_le ds k)
    · exact Nat.le_refl _

/-- Block Bb holds at least these bytes, and is of type T. -/
def DigBuf (w : World) (Bb : Nat) (T : TypeId) (ds : List UInt8) : Prop := ∃ cur, w.heap[Bb]? = some (.cells cur T (0, 0)) ∧ cur.size = 32 ∧ ∀ (j : Nat) (c : UInt8), ds[j]? = some c → cur[j]? = some (Value.int .u8 (c.toNat : Int))
theorem DigBuf.same {w w' : World} {Bb : Nat} {T : TypeId} {ds : List UInt8} (h : DigBuf w Bb T ds) (e : w'.heap[Bb]? = w.heap[Bb]?) : DigBuf w' Bb T ds := by
  obtain ⟨c, a, b⟩ := h
  exact ⟨c, e.trans a, b⟩
theorem DigBuf.cell {w : World} {Bb : Nat} {T : TypeId} {ds : List UInt8} (h : DigBuf w Bb T ds) (j : Nat) (hj : j < ds.length) : w.cell? ⟨Bb, j, none⟩ = some (Value.int .u8 ((ds.getD j 0).toNat : Int)) := by
  obtain ⟨c, a, _, b⟩ := h
  rw [cell_of_row w Bb j c T (0, 0) a, b j (ds.getD j 0) (by simp [List.getD, List.getElem?_eq_getElem hj])]
theorem DigBuf.take {w : World} {Bb : Nat} {T : TypeId} {ds : List UInt8} (h : DigBuf w Bb T ds) (k : Nat) : DigBuf w Bb T (ds.take k) := by
  obtain ⟨c, a, s, b⟩ := h
  refine ⟨c, a, s, fun j x hx => b j x ?_⟩
  rw [List.getElem?_take] at hx
  split at hx
  · exact hx
  · cases hx

def zeros32 : Array Value := Array.replicate 32 (Value.int .u8 0)
def encB : UInt8 → Value := fun b => Value.int .u8 (b.toNat : Int)

theorem holds_zero32 {w : World} {Bb : Nat} {T : TypeId} (h : w.heap[Bb]? = some (.cells zeros32 T (0, 0))) (nd : Nat) (hn : nd ≤ 32) : Holds encB w Bb 0 (Array.replicate nd (0 : UInt8)) := fun j hj => by
  have hj' : j < nd := by simpa using hj
  refine ⟨?_, ?_⟩
  · rw [Nat.zero_add, cell_of_row w Bb j _ T (0, 0) h, getElem!_pos _ j hj]
    simp only [zeros32, encB]
    rw [Array.getElem?_replicate, if_pos (by omega)]
    simp
  · simp [World.frozen?, h]

theorem digBuf_put {w : World} {Bb : Nat} {T : TypeId} (h : w.heap[Bb]? = some (.cells zeros32 T (0, 0))) (u v' n : Nat) (dk : Array UInt8) (h20 : Lib.nDigits u ≤ 32) (hF : Lib.FmtInv (Lib.nDigits u) u 0 v' dk) :
    DigBuf ((putRow encB w Bb 0 dk).drewN n) Bb T (Lib.decDigits u) := by
  refine ⟨putCells encB 0 dk zeros32, ?_, by simp [putCells, zeros32], fun j c hc => ?_⟩
  · show (putRow encB w Bb 0 dk).heap[Bb]? = _
    simp only [putRow, mapBlock, Array.getElem?_modify, if_true, h, Option.map_some, onCells]
  · have hj : j < (Lib.decDigits u).length := (List.getElem?_eq_some_iff.1 hc).1
    have hj2 := hj
    rw [Lib.decDigits_length] at hj2
    have hs := hF.size
    have e5 : (Lib.decDigits u)[j] = c := by
      rw [List.getElem?_eq_getElem hj] at hc
      exact Option.some.inj hc
    rw [← e5, Lib.row_is_numeral hF j hj]
    simp only [putCells, Array.getElem?_mapIdx, zeros32]
    rw [Array.getElem?_replicate, if_pos (by omega)]
    simp only [Option.map_some]
    rw [if_pos ⟨by omega, by omega⟩]
    rfl

theorem below_put (w : World) (Bb n : Nat) (dk : Array UInt8) : Below Bb w ((putRow encB w Bb 0 dk).drewN n) := by
  refine ⟨rfl, rfl, rfl, ?_, fun k hk => ?_⟩
  · show w.heap.size ≤ (putRow encB w Bb 0 dk).heap.size
    simp
  · show (putRow encB w Bb 0 dk).heap[k]? = _
    simp only [putRow, mapBlock, Array.getElem?_modify]
    rw [if_neg (by omega)]

def SetPost (w : World) (Bb : Nat) (T : TypeId) (u : Nat) (p : Int) (e : Ending) (w' : World) : Prop :=
  e = .returned (.tuple #[.int .i64 ((Lib.nDigits u : Int) + p), .int .i64 ((stripTo (Lib.decDigits u) (Lib.nDigits u) : Nat) : Int)]) ∧ DigBuf w' Bb T (Lib.decDigits u) ∧ Below Bb w w'

set_option maxHeartbeats 1000000 in
set_option maxRecDepth 100000 in
theorem setDigits_calls (u : Nat) (p : Int) (h2 : u < 18446744073709551616) (hp0 : -2000 ≤ p) (hp1 : p ≤ 2000) (Bb : Nat) (T : TypeId) (w : World) (hB : w.heap[Bb]? = some (.cells zeros32 T (0, 0))) :
    Calls Tryd.prog 55 #[.slice (some ⟨Bb, 0, none⟩) 32 32, .int .u64 u, .int .i64 p, .int .i64 (Lib.nDigits u)] w (SetPost w Bb T u p) := by
  have h20 := Lib.nDigits_le20 u h2
  have h1 := Lib.nDigits_pos u
  have hH := holds_zero32 hB (Lib.nDigits u) (by omega)
  have hfmt := Any.internal_strconv_formatBase10 Tryd.lays285 Bb 0 32 u (Array.replicate (Lib.nDigits u) 0) w hH (by rw [Array.size_replicate]; exact Lib.lt_pow_nDigits u) h2 (by rw [Array.size_replicate]; omega)
  rw [Array.size_replicate] at hfmt
  have HF := Lib.hid hfmt
  have HB := Lib.hid hB
  have hbb : Bb < w.heap.size := by
    rcases Nat.lt_or_ge Bb w.heap.size with h' | h'
    · exact h'
    · rw [Array.getElem?_eq_none h'] at hB; cases hB
  clear hfmt hB hH
  have hds : (Lib.decDigits u).length = Lib.nDigits u := Lib.decDigits_length u
  generalize hn : Lib.nDigits u = nd at *
  have Hn := Lib.hid hn
  have Hds := Lib.hid hds
  clear hn hds
  go_enter Tryd.func55, Tryd.ntmps55
  go_wp2_with fail
  refine HF.out.mono ?_
  rintro en w' ⟨rfl, n, v', dk, rfl, hF⟩
  have hD : DigBuf ((putRow encB w Bb 0 dk).drewN n) Bb T (Lib.decDigits u) := digBuf_put HB.out u v' n dk (by rw [Hn.out]; omega) (by rw [Hn.out]; exact hF)
  have hbel := below_put w Bb n dk
  show _
  have ew : (putRow (fun (b : UInt8) => Value.int .u8 (b.toNat : Int)) w Bb 0 dk).drewN n = (putRow encB w Bb 0 dk).drewN n := rfl
  rw [ew]
  generalize (putRow encB w Bb 0 dk).drewN n = W2 at hD hbel ⊢
  clear ew hF
  go_wp2_with fail
  go_loop [3] (fun k => ∃ j : Nat, j ≤ nd ∧ k = .int .i64 j ∧ stripTo (Lib.decDigits u) j = stripTo (Lib.decDigits u) nd) (fun k => (intOf k).toNat)
  case atStart => exact ⟨nd, Nat.le_refl _, rfl, rfl⟩
  case round =>
    obtain ⟨j, hj, rfl, hst⟩ := hrel
    have HS := Lib.hid hst
    have HD := Lib.hid hD
    clear hst hD
    cases j with
    | zero =>
      go_wp2
      go_ret2
      refine ⟨?_, HD.out, hbel⟩
      rw [Hn.out, ← HS.out]
      rfl
    | succ j =>
      have hc := HD.out.cell j (by rw [Hds.out]; omega)
      have hlt := ((Lib.decDigits u).getD j 0).toNat_lt
      by_cases h0 : (Lib.decDigits u).getD j 0 = 48
      · have hb : (((((Lib.decDigits u).getD j 0).toNat : Int)) == 48) = true := by rw [h0]; rfl
        have HH := Lib.hid h0
        clear h0
        generalize ((Lib.decDigits u).getD j 0).toNat = c at *
        go_wp2
        refine ⟨⟨j, by omega, rfl, ?_⟩, by simp [intOf]⟩
        rw [← HS.out, stripTo, if_pos HH.out]
      · have hb : (((((Lib.decDigits u).getD j 0).toNat : Int)) == 48) = false := by
          rw [beq_eq_false_iff_ne]
          intro e
          apply h0
          apply UInt8.toNat_inj.1
          show _ = 48
          omega
        have HH := Lib.hid h0
        clear h0
        generalize ((Lib.decDigits u).getD j 0).toNat = c at *
        go_wp2
        go_ret2
        refine ⟨?_, HD.out, hbel⟩
        rw [Hn.out, ← HS.out, stripTo, if_neg HH.out]
        rfl
end Go.Proofs.YtlebpaneignfaaaDoor
