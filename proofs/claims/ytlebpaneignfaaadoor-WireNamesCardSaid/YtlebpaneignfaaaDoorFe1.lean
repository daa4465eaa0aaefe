/- A number's digits as text: fmtEFG at the format e, over the translated program. -/
import Derived.Test.YtlebpaneignfaaaDoorFl5
namespace Go.Proofs.YtlebpaneignfaaaDoor
open Go.ChangeShapes Go.WideShapes Go.ChangeAt Go.RowKit Go.Sort

/-- Append of a piece of the digits' array. -/
theorem seg_law {B Bb : Nat} {T : TypeId} {ds : List UInt8} {w0 w : World} {v : Value} {l : List UInt8} {ops : Array Oper} {rest : List Oper} {o : Oper} {a : Act} {Q : Exit → Act → World → Prop} (hT : T ≠ 5) (hBb : Bb ≠ 0) (hO : Own B Bb T ds w0 w v l) (hgd : o.guard = none) (s x : Operand)
    (ho : o.op = .call { callee := .builtin .append, args := #[s, x], argTypes := #[27, 27] }) (hs : a.eval s = v) (off m c : Nat)
    (hx : a.eval x = .slice (some ⟨Bb, off, none⟩) m c) (hm : off + m = ds.length) (hl : l.length + ds.length ≤ 1000000)
    (h : ∀ v' w', Own B Bb T ds w0 w' v' (l ++ ds.drop off) → wpList Tryd.prog ops Q rest (a.put o.dst v') w') : wpList Tryd.prog ops Q (o :: rest) a w := by
  obtain ⟨i0, hi, hz0, hz1, hz2⟩ := info_parts i5
  have hD := hO.digs hBb
  have hlen : (ds.drop off).length = m := by rw [List.length_drop]; omega
  refine wpList_append_own _ hgd s x 27 ho B 5 i0 (.int .u8 0) 1 1 Tryd.underlying27 hi hz0 hz1 hz2 rfl (by decide) v l.length (Lib.byteCells l) hs hO.row ⟨Bb, off, none⟩ m c (Lib.byteCells (ds.drop off)) hx
    (by rw [Lib.byteCells_length, Nat.mul_one, hlen]) ?_ ?_ (by unfold maxLen; omega) (by omega) hO.size ?_
  · intro j u hj
    have hj' : j < (ds.drop off).length := by
      have := (List.getElem?_eq_some_iff.1 hj).1
      rwa [Lib.byteCells_length] at this
    rw [Addr.add_lit, hD.cell (off + j) (by rw [List.length_drop] at hj'; omega)]
    simp only [Lib.byteCells, List.getElem?_map, List.getElem?_drop] at hj
    rw [List.length_drop] at hj'
    rw [List.getElem?_eq_getElem (by omega)] at hj
    simp only [Option.map_some, Option.some.injEq] at hj
    rw [← hj]
    simp [List.getD, List.getElem?_eq_getElem (show off + j < ds.length by omega)]
  · intro u hu
    simp only [Lib.byteCells, List.mem_map] at hu
    obtain ⟨b, _, rfl⟩ := hu
    rfl
  · intro v' w' hr hg _
    refine h v' w' ?_
    have hr2 : w'.ownsRow B 5 1 v' (l ++ ds.drop off).length (Lib.byteCells (l ++ ds.drop off)) := by
      rw [List.length_append, hlen]
      simpa [Lib.byteCells] using hr
    refine ⟨hr2, ?_, hO.bel.grown hg hO.size (fun k hk => (hO.row.lt k hk).1), by have := hg.size; have := hO.size; omega⟩
    obtain ⟨cur, hc, hsz, hj⟩ := hD
    refine .inr ⟨cur, ?_, hsz, hj⟩
    have hlt : Bb < w.heap.size := by
      rcases Nat.lt_or_ge Bb w.heap.size with h' | h'
      · exact h'
      · rw [Array.getElem?_eq_none h'] at hc; cases hc
    rw [hg.block Bb hlt ?_]
    · exact hc
    · intro e
      obtain ⟨c, fz, hk⟩ := Lib.ownsRow_kind hO.row Bb e.symm
      rw [hc] at hk
      cases hk
      exact hT rfl

/-- The first digit, and a point and the others, if there are any. -/
def mantText (ds : List UInt8) : List UInt8 := if ds.length ≤ 1 then [ds.getD 0 0] else [ds.getD 0 0] ++ [46] ++ ds.drop 1
/-- A digit. -/
def dgt (n : Nat) : UInt8 := UInt8.ofNat (48 + n)
theorem dgt_toNat (n : Nat) (h : n ≤ 9) : (dgt n).toNat = 48 + n := by
  unfold dgt
  rw [UInt8.toNat_ofNat']
  omega
/-- e, the sign of x, and its digits, at least two. -/
def expText (neg : Bool) (x : Nat) : List UInt8 :=
  [101] ++ [if neg then 45 else 43] ++ (if x < 10 then [48, dgt x] else if x < 100 then [dgt (x / 10), dgt (x % 10)] else [dgt (x / 100), dgt (x / 10 % 10), dgt (x % 10)])

set_option maxHeartbeats 4000000 in
set_option maxRecDepth 100000 in
/-- Format e, a single digit. -/
theorem fmtE_one (B Bb : Nat) (T : TypeId) (hT : T ≠ 5) (hBb : Bb ≠ 0) (ds : List UInt8) (nd : Nat) (dp : Int) (en : Bool) (x : Nat) (hnd : ds.length = nd) (hn1 : nd = 1) (hx : x ≤ 500) (hdp : dp - 1 = if en then -(x : Int) else (x : Int)) (hx0 : en = true → 1 ≤ x) (neg : Bool) (w : World) (v : Value) (hO : Own B Bb T ds w w v []) :
    Calls Tryd.prog 53 #[v, .bool neg, .slice (some ⟨Bb, 0, none⟩) 32 32, .int .i64 dp, .int .i64 nd, .int .i64 0, .int .u8 101, .bool true] w (FmtPost B w (sgn neg ++ mantText ds ++ expText en x)) := by
  have Hn := Lib.hid hnd
  clear hnd
  have hn : 1 ≤ nd := by omega
  have hn2 : nd ≤ 1 := by omega
  have Hone := Lib.hid hn1
  clear hn1
  have hd0 := (hO.digs hBb).cell 0 (by rw [Hn.out]; omega)
  have hne : ((nd : Int) != 0) = true := by rw [bne_iff_ne]; omega
  have heq : ((nd : Int) == 0) = false := by rw [beq_eq_false_iff_ne]; omega
  have HE := Lib.hid hdp
  have HX := Lib.hid hx0
  clear hdp hx0
  go_enter Tryd.func53, Tryd.ntmps53
  go_upto_if 78 with fail
  go_cut [0] (fun v1 w1 => Own B Bb T ds w w1 v1 (sgn neg))
  case first =>
    cases neg with
    | false =>
      go_wp2_with fail
      go_meet
      exact hO
    | true =>
      go_wp2_with (at_builtin; refine push_law hT hO rfl _ _ rfl rfl [45] _ _ _ _ rfl rfl rfl (by simp) ?_)
      intro v1 w1 hO1
      go_wp2_with fail
      go_meet
      exact hO1
  case rest =>
    have hO1 := hcut
    clear hcut hd0
    have hd0 := (hO1.digs hBb).cell 0 (by rw [Hn.out]; omega)
    have hcl := (ds.getD 0 0).toNat_lt
    generalize hcc : ds.getD 0 0 = c0 at *
    have HC := Lib.hid hcc
    clear hcc
    have hsl := sgn_len neg
    have hlen : (sgn neg).length + [c0].length ≤ 1000000 := by simp; omega
    go_wp2_with (at_builtin; refine push_law hT hO1 rfl _ _ rfl rfl [c0] _ _ _ _ rfl rfl rfl hlen ?_)
    intro v2 w2 hO2
    have e0 : mantText ds = [c0] := by unfold mantText; rw [if_pos (by rw [Hn.out]; exact hn2), HC.out]
    have hO5 := hO2
    rw [← e0] at hO5
    clear hO2 hO1 hO
    have hml : (mantText ds).length ≤ 40 := by rw [e0]; simp
    have HM := Lib.hid e0
    clear e0
    have hX := HE.out
    have hX0 := HX.out
    have hlenE : (sgn neg ++ mantText ds).length + [(101 : UInt8)].length ≤ 1000000 := by rw [List.length_append]; simp; omega
    have hsize : (x < 10 ∧ (x : Int) + 48 = ((dgt x).toNat : Int) ∧ expText en x = [101] ++ [if en then 45 else 43] ++ [48, dgt x]) ∨
        (10 ≤ x ∧ x < 100 ∧ (x : Int) / 10 + 48 = ((dgt (x / 10)).toNat : Int) ∧ (x : Int) % 10 + 48 = ((dgt (x % 10)).toNat : Int) ∧ expText en x = [101] ++ [if en then 45 else 43] ++ [dgt (x / 10), dgt (x % 10)]) ∨
        (100 ≤ x ∧ (x : Int) / 100 + 48 = ((dgt (x / 100)).toNat : Int) ∧ (x : Int) / 10 % 10 + 48 = ((dgt (x / 10 % 10)).toNat : Int) ∧ (x : Int) % 10 + 48 = ((dgt (x % 10)).toNat : Int) ∧ expText en x = [101] ++ [if en then 45 else 43] ++ [dgt (x / 100), dgt (x / 10 % 10), dgt (x % 10)]) := by
      unfold expText
      by_cases h1 : x < 10
      · left
        refine ⟨h1, by rw [dgt_toNat x (by omega)]; omega, by rw [if_pos h1]⟩
      · right
        by_cases h2 : x < 100
        · left
          refine ⟨by omega, h2, by rw [dgt_toNat _ (by omega)]; omega, by rw [dgt_toNat _ (by omega)]; omega, by rw [if_neg h1, if_pos h2]⟩
        · right
          refine ⟨by omega, by rw [dgt_toNat _ (by omega)]; omega, by rw [dgt_toNat _ (by omega)]; omega, by rw [dgt_toNat _ (by omega)]; omega, by rw [if_neg h1, if_neg h2]⟩
    have HSz := Lib.hid hsize
    clear hsize
    generalize hEx : expText en x = ex at *
    clear hEx
    rcases en with _ | _
    all_goals
      simp only [Bool.false_eq_true, if_false, if_true, forall_const, false_implies] at hX hX0
      go_wp2_with (at_builtin; refine push_law hT hO5 rfl _ _ rfl rfl [101] _ _ _ _ rfl rfl rfl hlenE ?_)
      intro v6 w6 hO6
    · go_wp2_with (at_builtin; refine push_law hT hO6 rfl _ _ rfl rfl [43] _ _ _ _ rfl rfl rfl (by simp only [List.length_append, List.length_cons, List.length_nil]; omega) ?_)
      intro v7 w7 hO7
      rcases HSz.out with ⟨s1, s2, s3⟩ | ⟨s0, s1, s2, s3, s4⟩ | ⟨s0, s1, s2, s3, s4⟩
      · rw [s3]
        have S3 := Lib.hid s3
        clear s3
        go_wp2_with (at_builtin; refine push_law hT hO7 rfl _ _ rfl rfl [48, dgt x] _ _ _ _ rfl rfl rfl (by simp only [List.length_append, List.length_cons, List.length_nil]; omega) ?_)
        intro v8 w8 hO8
        go_wp2_with fail
        go_ret
        exact ⟨_, rfl, by rw [S3.out]; simpa [List.append_assoc] using hO8.row, hO8.bel⟩
      · rw [s4]
        have S3 := Lib.hid s4
        clear s4
        go_wp2_with (at_builtin; refine push_law hT hO7 rfl _ _ rfl rfl [dgt (x / 10), dgt (x % 10)] _ _ _ _ rfl rfl rfl (by simp only [List.length_append, List.length_cons, List.length_nil]; omega) ?_)
        intro v8 w8 hO8
        go_wp2_with fail
        go_ret
        exact ⟨_, rfl, by rw [S3.out]; simpa [List.append_assoc] using hO8.row, hO8.bel⟩
      · rw [s4]
        have S3 := Lib.hid s4
        clear s4
        go_wp2_with (at_builtin; refine push_law hT hO7 rfl _ _ rfl rfl [dgt (x / 100), dgt (x / 10 % 10), dgt (x % 10)] _ _ _ _ rfl rfl rfl (by simp only [List.length_append, List.length_cons, List.length_nil]; omega) ?_)
        intro v8 w8 hO8
        go_wp2_with fail
        go_ret
        exact ⟨_, rfl, by rw [S3.out]; simpa [List.append_assoc] using hO8.row, hO8.bel⟩
    · go_wp2_with (at_builtin; refine push_law hT hO6 rfl _ _ rfl rfl [45] _ _ _ _ rfl rfl rfl (by simp only [List.length_append, List.length_cons, List.length_nil]; omega) ?_)
      intro v7 w7 hO7
      rcases HSz.out with ⟨s1, s2, s3⟩ | ⟨s0, s1, s2, s3, s4⟩ | ⟨s0, s1, s2, s3, s4⟩
      · rw [s3]
        have S3 := Lib.hid s3
        clear s3
        go_wp2_with (at_builtin; refine push_law hT hO7 rfl _ _ rfl rfl [48, dgt x] _ _ _ _ rfl rfl rfl (by simp only [List.length_append, List.length_cons, List.length_nil]; omega) ?_)
        intro v8 w8 hO8
        go_wp2_with fail
        go_ret
        exact ⟨_, rfl, by rw [S3.out]; simpa [List.append_assoc] using hO8.row, hO8.bel⟩
      · rw [s4]
        have S3 := Lib.hid s4
        clear s4
        go_wp2_with (at_builtin; refine push_law hT hO7 rfl _ _ rfl rfl [dgt (x / 10), dgt (x % 10)] _ _ _ _ rfl rfl rfl (by simp only [List.length_append, List.length_cons, List.length_nil]; omega) ?_)
        intro v8 w8 hO8
        go_wp2_with fail
        go_ret
        exact ⟨_, rfl, by rw [S3.out]; simpa [List.append_assoc] using hO8.row, hO8.bel⟩
      · rw [s4]
        have S3 := Lib.hid s4
        clear s4
        go_wp2_with (at_builtin; refine push_law hT hO7 rfl _ _ rfl rfl [dgt (x / 100), dgt (x / 10 % 10), dgt (x % 10)] _ _ _ _ rfl rfl rfl (by simp only [List.length_append, List.length_cons, List.length_nil]; omega) ?_)
        intro v8 w8 hO8
        go_wp2_with fail
        go_ret
        exact ⟨_, rfl, by rw [S3.out]; simpa [List.append_assoc] using hO8.row, hO8.bel⟩
end Go.Proofs.YtlebpaneignfaaaDoor
