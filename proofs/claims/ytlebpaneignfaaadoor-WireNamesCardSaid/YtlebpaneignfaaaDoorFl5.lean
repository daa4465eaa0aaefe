/- A number's digits as text: fmtEFG at the formats e and f, over the translated program. -/
import Derived.Test.YtlebpaneignfaaaDoorFl4
import Derived.Deep.DeepCutAuto
namespace Go.Proofs.YtlebpaneignfaaaDoor
open Go.ChangeShapes Go.WideShapes Go.ChangeAt Go.RowKit Go.Sort

/-- What is written so far: the slice v is the call's own and holds l; the digits' array stands; below B nothing has turned. -/
structure Own (B Bb : Nat) (T : TypeId) (ds : List UInt8) (w0 w : World) (v : Value) (l : List UInt8) : Prop where
  row : w.ownsRow B 5 1 v l.length (Lib.byteCells l)
  dig : Bb = 0 ∨ DigBuf w Bb T ds
  bel : Below B w0 w
  size : B ≤ w.heap.size

theorem i5 : (Tryd.prog.info? 5).map (fun i => (i.zero, i.size, i.bytes)) = some (some (.int .u8 0), 1, 1) := by kernel_rfl

theorem Own.grown {B Bb : Nat} {T : TypeId} {ds : List UInt8} {w0 w w' : World} {v v' : Value} {l l' : List UInt8} (hT : T ≠ 5) (h : Own B Bb T ds w0 w v l) (o : Obj) (hr : w'.ownsRow B 5 1 v' l'.length (Lib.byteCells l'))
    (hg : (w.alloc o).grownBy w' v.ownBlock) : Own B Bb T ds w0 w' v' l' := by
  have hb : Below B w0 (w.alloc o) := h.bel.alloc h.size o
  have hs : B ≤ (w.alloc o).heap.size := by have := h.size; simp; omega
  refine ⟨hr, ?_, hb.grown hg hs (fun k hk => (h.row.lt k hk).1), by have := hg.size; omega⟩
  rcases h.dig with h0 | ⟨cur, hc, hsz, hj⟩
  · exact .inl h0
  · refine .inr ⟨cur, ?_, hsz, hj⟩
    have hlt : Bb < w.heap.size := by
      rcases Nat.lt_or_ge Bb w.heap.size with h' | h'
      · exact h'
      · rw [Array.getElem?_eq_none h'] at hc; cases hc
    rw [hg.block Bb (by simp; omega) ?_]
    · rw [Below.heap_alloc w o Bb hlt]; exact hc
    · intro e
      obtain ⟨c, fz, hk⟩ := Lib.ownsRow_kind h.row Bb e.symm
      rw [hc] at hk
      cases hk
      exact hT rfl

theorem push_law {B Bb : Nat} {T : TypeId} {ds : List UInt8} {w0 w : World} {v : Value} {l : List UInt8} {ops : Array Oper} {rest : List Oper} {o : Oper} {a : Act} {Q : Exit → Act → World → Prop} (hT : T ≠ 5) (hO : Own B Bb T ds w0 w v l) (hgd : o.guard = none) (s x : Operand)
    (ho : o.op = .call { callee := .builtin .append, args := #[s, x], argTypes := #[27, 27] }) (hs : a.eval s = v) (bs : List UInt8) (arr : Array Value) (Te : TypeId) (m c : Nat)
    (hx : a.eval x = .slice (some ⟨w.heap.size, 0, none⟩) m c) (hm : m = bs.length) (harr : arr = (Lib.byteCells bs).toArray) (hl : l.length + bs.length ≤ 1000000)
    (h : ∀ v' w', Own B Bb T ds w0 w' v' (l ++ bs) → wpList Tryd.prog ops Q rest (a.put o.dst v') w') : wpList Tryd.prog ops Q (o :: rest) a (w.alloc (.cells arr Te)) := by
  obtain ⟨i0, hi, hz0, hz1, hz2⟩ := info_parts i5
  subst hm harr
  refine wpList_append_own _ hgd s x 27 ho B 5 i0 (.int .u8 0) 1 1 Tryd.underlying27 hi hz0 hz1 hz2 rfl (by decide) v l.length (Lib.byteCells l) hs (hO.row.alloc _) ⟨w.heap.size, 0, none⟩ bs.length c (Lib.byteCells bs) hx
    (by rw [Lib.byteCells_length, Nat.mul_one]) ?_ ?_ (by unfold maxLen; omega) (by omega) (by have := hO.size; simp; omega) ?_
  · intro j u hj
    rw [Addr.add_lit, Nat.zero_add, World.cell?_alloc_new]
    simpa using hj
  · intro u hu
    simp only [Lib.byteCells, List.mem_map] at hu
    obtain ⟨b, _, rfl⟩ := hu
    rfl
  · intro v' w' hr hg _
    refine h v' w' (hO.grown hT _ ?_ hg)
    rw [List.length_append]
    simpa [Lib.byteCells] using hr

def sgn (neg : Bool) : List UInt8 := if neg then [45] else []
def FmtPost (B : Nat) (w0 : World) (l : List UInt8) (e : Ending) (w' : World) : Prop := ∃ v, e = .returned v ∧ w'.ownsRow B 5 1 v l.length (Lib.byteCells l) ∧ Below B w0 w'

theorem Own.digs {B Bb : Nat} {T : TypeId} {ds : List UInt8} {w0 w : World} {v : Value} {l : List UInt8} (h : Own B Bb T ds w0 w v l) (hb : Bb ≠ 0) : DigBuf w Bb T ds := by
  rcases h.dig with h0 | h1
  · exact absurd h0 hb
  · exact h1
theorem sgn_len (neg : Bool) : (sgn neg).length ≤ 1 := by cases neg <;> simp [sgn]
theorem take_snoc (ds : List UInt8) (k : Nat) (h : k < ds.length) : ds.take (k + 1) = ds.take k ++ [ds.getD k 0] := by
  rw [List.take_succ_eq_append_getElem h]
  simp [List.getD, List.getElem?_eq_getElem h]

set_option maxHeartbeats 1000000 in
set_option maxRecDepth 100000 in
/-- A number above all of its digits: the digits, and noughts behind them. -/
theorem fmtF_above (B Bb : Nat) (T : TypeId) (hT : T ≠ 5) (hBb : Bb ≠ 0) (ds : List UInt8) (nd dp : Nat) (hnd : ds.length = nd) (hn1 : 1 ≤ nd) (hn2 : nd ≤ 20) (hd1 : nd ≤ dp) (hd2 : dp ≤ 400) (neg : Bool) (w : World) (v : Value) (hO : Own B Bb T ds w w v []) :
    Calls Tryd.prog 53 #[v, .bool neg, .slice (some ⟨Bb, 0, none⟩) 32 32, .int .i64 dp, .int .i64 nd, .int .i64 0, .int .u8 102, .bool true] w (FmtPost B w (sgn neg ++ ds ++ List.replicate (dp - nd) 48)) := by
  have Hn := Lib.hid hnd
  clear hnd
  have hpos : decide (0 < dp) = true := by simp; omega
  have hmin : min (nd : Int) (dp : Int) = (nd : Int) := by omega
  have hmax : max (nd : Int) 0 = (nd : Int) := by omega
  obtain ⟨N, hN⟩ : ∃ N : Nat, N = dp - nd := ⟨_, rfl⟩
  have hN2 : (dp : Int) - (nd : Int) = (N : Int) := by omega
  have hNle : N ≤ 400 := by omega
  rw [← hN]
  have HN := Lib.hid hN
  clear hN
  go_enter Tryd.func53, Tryd.ntmps53
  go_upto_if 178 with fail
  go_cut [0] (fun v1 w1 => Own B Bb T ds w w1 v1 (sgn neg))
  case first =>
    cases neg with
    | false =>
      go_wp2_with fail
      go_meet
      exact hO
    | true =>
      go_wp2_with (at_builtin; refine push_law hT hO rfl _ _ rfl rfl [45] _ _ _ _ rfl rfl rfl (by simp) ?_)
      intro v1 w1 hO1
      go_wp2_with fail
      go_meet
      exact hO1
  case rest =>
    have hO1 := hcut
    clear hcut
    go_wp2_with fail
    go_loopw [0, 25, 191] (fun v _ i wr => ∃ k : Nat, k ≤ nd ∧ i = .int .i64 k ∧ Own B Bb T ds w wr v (sgn neg ++ ds.take k)) (fun _ _ i _ => nd - (intOf i).toNat)
    case atStart => exact ⟨0, Nat.zero_le _, rfl, by simpa using hO1⟩
    case round =>
      obtain ⟨k, hk, rfl, hOk⟩ := hrel
      by_cases hlt : k < nd
      · have hc := (hOk.digs hBb).cell k (by rw [Hn.out]; exact hlt)
        have hcl := (ds.getD k 0).toNat_lt
        generalize hcc : ds.getD k 0 = c at *
        have HC := Lib.hid hcc
        clear hcc
        have hlen : (sgn neg ++ ds.take k).length + [c].length ≤ 1000000 := by
          have := sgn_len neg
          simp
          omega
        go_wp2_with (at_builtin; refine push_law hT hOk rfl _ _ rfl rfl [c] _ _ _ _ rfl rfl rfl hlen ?_)
        intro v2 w2 hO2
        go_wp2_with fail
        go_roundw
        case rel => exact ⟨k + 1, by omega, by go_num, by rw [take_snoc ds k (by rw [Hn.out]; exact hlt), HC.out]; exact hO2⟩
        case measure => simp [intOf]; omega
      · have hOn := hOk
        rw [List.take_of_length_le (by rw [Hn.out]; omega)] at hOn
        clear hOk
        go_wp2_with fail
        go_loopw [0, 203] (fun v i wr => ∃ k : Nat, k ≤ N ∧ i = .int .i64 k ∧ Own B Bb T ds w wr v (sgn neg ++ ds ++ List.replicate k 48)) (fun _ i _ => N - (intOf i).toNat)
        case atStart => exact ⟨0, Nat.zero_le _, rfl, by simpa using hOn⟩
        case round =>
          obtain ⟨q, hq, rfl, hOq⟩ := hrel
          by_cases hlq : q < N
          · have hlen : (sgn neg ++ ds ++ List.replicate q 48).length + [(48 : UInt8)].length ≤ 1000000 := by
              have := sgn_len neg
              simp [Hn.out]
              omega
            go_wp2_with (at_builtin; refine push_law hT hOq rfl _ _ rfl rfl [48] _ _ _ _ rfl rfl rfl hlen ?_)
            intro v2 w2 hO2
            go_wp2_with fail
            go_roundw
            case rel => exact ⟨q + 1, by omega, by go_num, by rw [List.replicate_succ', List.append_assoc]; exact hO2⟩
            case measure => simp [intOf]; omega
          · have hqN : q = N := by omega
            have HQ := Lib.hid hqN
            clear hqN
            go_wp2_with fail
            go_ret
            exact ⟨_, rfl, by rw [← HQ.out]; exact hOq.row, hOq.bel⟩
end Go.Proofs.YtlebpaneignfaaaDoor
