/- find: where among those below a node the one stands that goes on with a byte. Conditions: the tree as it lies. -/
import Derived.Test.YtjfcdkmnccafaaaPb2
namespace Go.Proofs.Ytjfcdkmnccafaaa.Pb
open Go.ChangeShapes Go.WideShapes Go.ChangeAt Go.RowKit
set_option maxHeartbeats 4000000 in
set_option maxRecDepth 100000 in
theorem fcmp_calls (w : World) (c b bx : Nat) (S R : ByteArray) (x : Nat) (c0 : w.cell? ⟨c, 0, none⟩ = some (.string S)) (cb : w.cell? ⟨bx, 0, none⟩ = some (.pointer (some ⟨b, 0, none⟩))) (b0 : w.cell? ⟨b, 0, none⟩ = some (.string R)) (h : R.size < S.size) :
    Calls Try.prog 42 #[.pointer (some ⟨c, 0, none⟩), .int .u8 x, .pointer (some ⟨bx, 0, none⟩)] w fun e w' => e = .returned (.int .i64 (cmpN (S[R.size]'h).toNat x)) ∧ ∃ n, w' = w.drewN n := by
  have HC := Lib.hid (fun w z => compare_calls w z x)
  have hlt : (R.size : Int) < (S.size : Int) := by omega
  go_enter Try.func42, Try.ntmps42
  go_wp2_with fail
  go_quiet ((go_at_call 43; with_reducible exact Calls.quiet_of_same ((HC.out _ _).mono fun _ _ ⟨a, b⟩ => ⟨a, b.symm⟩)))
  go_wp2_with fail
  go_ret
  exact ⟨rfl, _, rfl⟩
/-- Where, in numbers that rise, one stands, or would stand; whether it is there. -/
structure Fnd (ys : List Nat) (x k : Nat) (th : Bool) : Prop where
  le : k ≤ ys.length
  lo : ∀ i (h : i < ys.length), i < k → ys[i] < x
  hi : ∀ i (h : i < ys.length), k ≤ i → x ≤ ys[i]
  at_ : ∀ (h : k < ys.length), (th = true ↔ ys[k] = x)
  no : ys.length ≤ k → th = false
theorem fnd_ex : ∀ (ys : List Nat), ys.Pairwise (· < ·) → ∀ x, ∃ k th, Fnd ys x k th
  | [], _, x => ⟨0, false, Nat.le_refl _, fun i h => absurd h (Nat.not_lt_zero _), fun i h => absurd h (Nat.not_lt_zero _), fun h => absurd h (Nat.not_lt_zero _), fun _ => rfl⟩
  | y :: r, hs, x => by
    obtain ⟨h1, h2⟩ := List.pairwise_cons.1 hs
    by_cases hy : y < x
    · obtain ⟨k, th, hf⟩ := fnd_ex r h2 x
      refine ⟨k + 1, th, Nat.succ_le_succ hf.le, fun i h hi => ?_, fun i h hi => ?_, fun h => ?_, fun h => hf.no (Nat.le_of_succ_le_succ h)⟩
      · cases i with
        | zero => exact hy
        | succ i => exact hf.lo i (Nat.lt_of_succ_lt_succ h) (Nat.lt_of_succ_lt_succ hi)
      · cases i with
        | zero => omega
        | succ i => exact hf.hi i (Nat.lt_of_succ_lt_succ h) (Nat.le_of_succ_le_succ hi)
      · exact hf.at_ (Nat.lt_of_succ_lt_succ h)
    · refine ⟨0, decide (y = x), Nat.zero_le _, fun i h hi => absurd hi (Nat.not_lt_zero _), fun i h _ => ?_, fun h => by simp, fun h => absurd h (by simp)⟩
      cases i with
      | zero => show x ≤ y; omega
      | succ i =>
        have := h1 (r[i]'(Nat.lt_of_succ_lt_succ h)) (List.getElem_mem _)
        show x ≤ r[i]'(Nat.lt_of_succ_lt_succ h)
        omega
set_option maxHeartbeats 4000000 in
set_option maxRecDepth 100000 in
theorem bsearch_calls (w : World) (a : Option Addr) (cp : Nat) (l ys : List Nat) (b bx x k : Nat) (th : Bool) (R : ByteArray) (hl : l.length ≤ 1000000) (hyl : ys.length = l.length) (hF : Fnd ys x k th) (cb : w.cell? ⟨bx, 0, none⟩ = some (.pointer (some ⟨b, 0, none⟩))) (b0 : w.cell? ⟨b, 0, none⟩ = some (.string R))
    (hI : ∀ i (hi : i < l.length), ∃ g, a = some ⟨g, 0, none⟩ ∧ g < w.heap.size ∧ w.cell? ⟨g, i, none⟩ = some (ptr l[i])) (hS : ∀ i (hi : i < l.length), ∃ S : ByteArray, ∃ h : R.size < S.size, w.cell? ⟨l[i], 0, none⟩ = some (.string S) ∧ (S[R.size]'h).toNat = ys[i]'(by omega)) :
    Calls Try.prog 41 #[.slice a l.length cp, .int .u8 x, .func (.func 42) #[] #[.pointer (some ⟨bx, 0, none⟩)]] w fun e w' => e = .returned (.tuple #[.int .i64 k, .bool th]) ∧ Below w.heap.size w w' := by
  have HI := Lib.hid hI
  have HF := Lib.hid hF
  have hk := hF.le
  have HC : Hid (∀ (wr : World), Below w.heap.size w wr → ∀ i (hi : i < l.length), Calls Try.prog 42 #[.pointer (some ⟨l[i], 0, none⟩), .int .u8 x, .pointer (some ⟨bx, 0, none⟩)] wr fun e w' => e = .returned (.int .i64 (cmpN (ys[i]'(by omega)) x)) ∧ ∃ n, w' = wr.drewN n) := Lib.hid (fun wr hb i hi => by
    obtain ⟨S, h, hc, hy⟩ := hS i hi
    have := fcmp_calls wr l[i] b bx S R x ((hb.cell (p := ⟨l[i], 0, none⟩) (World.block_lt_of_cell? w _ hc)).trans hc) ((hb.cell (p := ⟨bx, 0, none⟩) (World.block_lt_of_cell? w _ cb)).trans cb) ((hb.cell (p := ⟨b, 0, none⟩) (World.block_lt_of_cell? w _ b0)).trans b0) h
    rw [hy] at this
    exact this)
  clear hI hS hF cb b0
  go_enter Try.func41, Try.ntmps41
  go_wp2_with fail
  go_loopg [9, 10, 11] (l.length + 1) (fun g iv jv _ wr => ∃ i j : Nat, iv = .int .i64 i ∧ jv = .int .i64 j ∧ i ≤ j ∧ j ≤ l.length ∧ i ≤ k ∧ k ≤ j ∧ j - i ≤ g ∧ Hid (Below w.heap.size w wr))
  case atStart => exact ⟨0, l.length, rfl, rfl, by omega, by omega, by omega, by omega, by omega, Lib.hid (Below.refl _ _)⟩
  case round =>
    obtain ⟨i, j, rfl, rfl, hij, hj, hi, hA, hg, HB⟩ := hrel
    by_cases hlt : i < j
    · have hc : (i : Int) < (j : Int) := by omega
      obtain ⟨m, hm⟩ : ∃ m : Nat, m = (i + j) / 2 := ⟨_, rfl⟩
      have hml2 : m < l.length := by omega
      have hym : m < ys.length := by omega
      have hmi : ((i : Int) + (j : Int)) / 2 = (m : Int) := by omega
      have hmc : (m : Int) < (l.length : Int) := by omega
      obtain ⟨g, rfl, hgl, c0⟩ := HI.out m hml2
      have c0 := (HB.out.cell (p := ⟨g, m, none⟩) hgl).trans c0
      have HCm := Lib.hid (HC.out _ HB.out m hml2)
      have k1 : m < k → ys[m]'hym < x := HF.out.lo m (by omega)
      have k2 : k ≤ m → x ≤ ys[m]'hym := HF.out.hi m (by omega)
      have hB2 := Lib.hid (fun n => bstep HB.out (bdrew wr n))
      clear hgl hm
      generalize l[m] = q at *
      generalize ys[m]'hym = y at *
      simp only [ptr] at c0
      by_cases hmA : m < k
      · have hz := cmpN_lt (k1 hmA)
        rw [hz] at HCm
        clear k1 k2 hz
        go_wp2_with fail
        refine HCm.out.mono ?_
        rintro e w2 ⟨rfl, n, rfl⟩
        go_wp2_with fail
        go_roundg (gk - 1)
        case measure => omega
        case rel => exact ⟨m + 1, j, by go_num, rfl, by omega, by omega, by omega, by omega, by omega, Lib.hid (hB2.out _)⟩
      · have hz : ¬ cmpN y x < 0 := by
          have := k2 (by omega)
          unfold cmpN
          rw [if_neg (by omega)]
          split <;> omega
        generalize cmpN y x = z at *
        clear k1 k2
        go_wp2_with fail
        refine HCm.out.mono ?_
        rintro e w2 ⟨rfl, n, rfl⟩
        go_wp2_with fail
        go_roundg (gk - 1)
        case measure => omega
        case rel => exact ⟨i, m, rfl, by go_num, by omega, by omega, by omega, by omega, by omega, Lib.hid (hB2.out _)⟩
    · have hc : ¬ (i : Int) < (j : Int) := by omega
      obtain rfl : i = j := by omega
      obtain rfl : i = k := by omega
      by_cases hAl2 : i < l.length
      · have hAc : (i : Int) < (l.length : Int) := by omega
        obtain ⟨g, rfl, hgl, c0⟩ := HI.out i hAl2
        have c0 := (HB.out.cell (p := ⟨g, i, none⟩) hgl).trans c0
        have HCm := Lib.hid (HC.out _ HB.out i hAl2)
        have HT : Hid ((cmpN (ys[i]'(by omega)) x == 0) = th) := Lib.hid (by
          have h1 := HF.out.at_ (by omega)
          have h2 := HF.out.hi i (by omega) (Nat.le_refl _)
          by_cases hy : ys[i]'(by omega) = x
          · rw [cmpN_eq hy, h1.2 hy]; rfl
          · rw [cmpN_gt (by omega)]
            cases th with
            | true => exact absurd (h1.1 rfl) hy
            | false => rfl)
        have hB2 := Lib.hid (fun n => bstep HB.out (bdrew wr n))
        clear hgl
        generalize l[i] = q at *
        generalize cmpN (ys[i]'(by omega)) x = z at *
        simp only [ptr] at c0
        cases hz : (z == 0)
        · rw [hz] at HT
          go_wp2_with fail
          refine HCm.out.mono ?_
          rintro e w2 ⟨rfl, n, rfl⟩
          go_wp2_with fail
          go_ret2
          exact ⟨by rw [← HT.out]; rfl, hB2.out _⟩
        · rw [hz] at HT
          go_wp2_with fail
          refine HCm.out.mono ?_
          rintro e w2 ⟨rfl, n, rfl⟩
          go_wp2_with fail
          go_ret2
          exact ⟨by rw [← HT.out]; rfl, hB2.out _⟩
      · have hAc : ¬ (i : Int) < (l.length : Int) := by omega
        have HT : Hid (th = false) := Lib.hid (HF.out.no (by omega))
        go_wp2_with fail
        go_ret2
        exact ⟨by rw [HT.out]; rfl, HB.out⟩
end Go.Proofs.Ytjfcdkmnccafaaa.Pb
