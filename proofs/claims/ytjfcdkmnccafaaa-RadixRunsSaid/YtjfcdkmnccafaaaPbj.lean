/- slices.Backward: a row from its end, as an iterator. Conditions: the row as it lies; bounds. -/
import Derived.Test.YtjfcdkmnccafaaaPbe
namespace Go.Proofs.Ytjfcdkmnccafaaa.Pb
open Go.RowKit Go.Shelf
attribute [local go_sem] Oper.semAt_some
/-- The k last ones, the last one first, each with its place. -/
def backL (L : List Nat) (k : Nat) : List (Nat × Nat) := (List.range k).map fun j => (L.length - 1 - j, L[L.length - 1 - j]?.getD 0)
theorem backL_succ (L : List Nat) (k : Nat) : backL L (k + 1) = backL L k ++ [(L.length - 1 - k, L[L.length - 1 - k]?.getD 0)] := by simp [backL, List.range_succ]
theorem backL_length (L : List Nat) (k : Nat) : (backL L k).length = k := by simp [backL]
theorem backL_all (L : List Nat) : (backL L L.length).map (·.2) = L.reverse := by
  apply List.ext_getElem
  · simp [backL]
  · intro i h1 h2
    simp only [List.length_map, backL_length] at h1
    simp only [backL, List.map_map, List.getElem_map, List.getElem_range, Function.comp, List.getElem_reverse]
    rw [List.getElem?_eq_getElem (by omega)]
    rfl
set_option maxRecDepth 100000 in
set_option maxHeartbeats 4000000 in
theorem back_calls (w : World) (a : Option Addr) (k c : Nat) :
    Calls Try.prog 31 #[.slice a k c] w fun e w' => e = .returned (.func (.func 40) #[] #[.pointer (some ⟨w.heap.size, 0, none⟩)]) ∧ w' = w.alloc (.cells #[.slice a k c] 47) := by
  go_enter Try.func31, Try.ntmps31
  go_wp2_with fail
  go_ret
  exact ⟨rfl, rfl⟩
set_option maxRecDepth 100000 in
set_option maxHeartbeats 4000000 in
theorem back1_in (n : Nat) (hn : 1 ≤ n) (l Bs n₀ : Nat) (a : Option Addr) (cp : Nat) (L : List Nat) (hL : L.length ≤ 1000000) (J Jx : List (Nat × Nat) → World → Prop)
    (hY : ∀ pre x W, J pre W → pre.length < L.length → YieldAt Fence.wide (n - 1) Try.prog l #[.int .i64 (x.1 : Nat), .pointer (some ⟨x.2, 0, none⟩)] W fun e W' =>
      (e = .returned (.bool true) ∧ J (pre ++ [x]) W' ∧ Kps n₀ Bs W W') ∨ (e = .returned (.bool false) ∧ Jx (pre ++ [x]) W'))
    (W : World) (cs : W.cell? ⟨Bs, 0, none⟩ = some (.slice a L.length cp)) (hI : ∀ i (hi : i < L.length), ∃ g, a = some ⟨g, 0, none⟩ ∧ g < n₀ ∧ W.cell? ⟨g, i, none⟩ = some (.pointer (some ⟨L[i], 0, none⟩))) (h0 : J [] W) :
    CallsIn Fence.wide n Try.prog 40 #[.func (.yield l) #[] #[], .pointer (some ⟨Bs, 0, none⟩)] W fun e W' => (∃ v, e = .returned v) ∧
      ((∃ ys, ys = backL L L.length ∧ J ys W') ∨ (∃ pre, (∃ k, k ≤ L.length ∧ pre = backL L k) ∧ Jx pre W')) := by
  have HI := Lib.hid hI
  clear hI
  refine callsIn_of_wp Try.func40 rfl trivial ?_ rfl
  simp only [Try.ntmps40, List.size_toArray, List.length_cons, List.length_nil, Nat.reduceAdd, Nat.reduceSub, Array.replicate_succ, Array.replicate_zero, List.push_toArray, List.append_toArray, List.nil_append, List.cons_append]
  obtain ⟨len, hlen⟩ : ∃ len, L.length = len := ⟨_, rfl⟩
  rw [hlen] at cs hL
  have HLN := Lib.hid hlen
  gi_wp2
  gi_loopw [3] (fun i wr => ∃ k : Nat, k ≤ len ∧ i = .int .i64 ((len : Int) - 1 - k) ∧ J (backL L k) wr ∧ Kps n₀ Bs W wr)
    (fun i _ => (intOf i + 1).toNat)
  case atStart => exact ⟨0, Nat.zero_le _, by simp, h0, fun _ _ => rfl⟩
  case round =>
    obtain ⟨k, hk, rfl, hJs, hkp⟩ := hrel
    have cs' := (World.cell?_of_block (a := ⟨Bs, 0, none⟩) (hkp Bs (.inr rfl))).trans cs
    by_cases hlt : k < len
    · have e1 : (len : Int) - 1 - k = ((len - 1 - k : Nat) : Int) := by omega
      rw [e1]
      obtain ⟨p, hp⟩ : ∃ p, len - 1 - k = p := ⟨_, rfl⟩
      have hpl : p < len := by omega
      obtain ⟨g, hg, hgn, hcg⟩ := HI.out p (by rw [HLN.out]; exact hpl)
      have hcg' := (World.cell?_of_block (a := ⟨g, p, none⟩) (hkp g (.inl hgn))).trans hcg
      have hx : (p, L[p]?.getD 0) = (L.length - 1 - k, L[L.length - 1 - k]?.getD 0) := by rw [HLN.out, hp]
      have hy0 := hY _ (p, L[p]?.getD 0) wr hJs (by rw [backL_length, HLN.out]; exact hlt)
      rw [List.getElem?_eq_getElem (by rw [HLN.out]; exact hpl)] at hy0 hx
      simp only [Option.getD_some] at hy0 hx
      obtain ⟨fn, tmps, assign, body, hy, hR⟩ := hy0
      rw [hp]
      subst hg
      have HX := Lib.hid hx
      clear hx hcg
      generalize hq : (L[p]'(by rw [HLN.out]; exact hpl)) = q at *
      clear hq
      have hpc : (p : Int) < (len : Int) := by omega
      gi_wp2
      refine hR.mono ?_
      rintro e W3 (⟨rfl, hJ3, hk3⟩ | ⟨rfl, hJx3⟩)
      · gi_wp2
        go_roundw
        case rel => exact ⟨k + 1, by omega, by congr 1; omega, by rw [backL_succ, ← HX.out]; exact hJ3, hkp.trans hk3⟩
        case measure => simp [intOf]
      · gi_wp2
        refine bodyPost_ret (results_none rfl _ _ _) rfl ?_
        exact ⟨⟨_, rfl⟩, .inr ⟨_, ⟨k + 1, by rw [HLN.out]; omega, by rw [backL_succ, ← HX.out]⟩, hJx3⟩⟩
    · obtain rfl : k = len := by omega
      have e1 : (k : Int) - 1 - k = -1 := by omega
      rw [e1]
      gi_wp2
      go_end0
      exact ⟨⟨_, rfl⟩, .inl ⟨_, by rw [HLN.out], hJs⟩⟩
/-- What Backward hands back. -/
theorem back_stops (n : Nat) (hn : 1 ≤ n) (Bs n₀ : Nat) (a : Option Addr) (cp : Nat) (L : List Nat) (hL : L.length ≤ 1000000) (w : World) (hBs : Bs < w.heap.size) (cs : w.cell? ⟨Bs, 0, none⟩ = some (.slice a L.length cp)) (hI : ∀ i (hi : i < L.length), ∃ g, a = some ⟨g, 0, none⟩ ∧ g < n₀ ∧ w.cell? ⟨g, i, none⟩ = some (.pointer (some ⟨L[i], 0, none⟩))) :
    SeqStopsK Fence.wide n Try.prog 40 #[.pointer (some ⟨Bs, 0, none⟩)] (fun x : Nat × Nat => #[Value.int .i64 (x.1 : Nat), Value.pointer (some ⟨x.2, 0, none⟩)]) (Kps n₀ Bs) (fun ys => ys = backL L L.length) (fun pre => ∃ k, k ≤ L.length ∧ pre = backL L k) L.length w := fun l J Jx W hW _ _ hY h0 =>
  back1_in n hn l Bs n₀ a cp L hL J Jx hY W ((hW.cell (p := ⟨Bs, 0, none⟩) hBs).trans cs) (fun i hi => by
    obtain ⟨g, h1, h2, h3⟩ := hI i hi
    exact ⟨g, h1, h2, (hW.cell (p := ⟨g, i, none⟩) (World.block_lt_of_cell? _ _ h3)).trans h3⟩) h0
end Go.Proofs.Ytjfcdkmnccafaaa.Pb
