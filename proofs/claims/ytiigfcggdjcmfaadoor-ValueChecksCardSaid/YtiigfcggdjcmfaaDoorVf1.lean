/- Package value's Same; what a copy has of its value. Condition of Same: no deeper than 65536 lists. -/
import Derived.Test.YtiigfcggdjcmfaaDoorVe4
namespace Go.Proofs.YtiigfcggdjcmfaaDoor
open Go.ChangeShapes Go.WideShapes Go.ChangeAt Go.RowKit

def Sames (x y : Val) (w : World) (e : Ending) (w' : World) : Prop := e = .returned (.bool (same x y)) ∧ Below w.heap.size w w'
set_option maxHeartbeats 1000000 in
theorem vsame_calls (x y : Val) (S : Nat → Prop) (w : World) (hS : ∀ b, S b → b < w.heap.size) (hl : Lies S w x) (hl' : Lies S w y) (hn : x.nest ≤ 65536) :
    Calls Tryd.prog 21 #[x.agg, y.agg] w (Sames x y w) := by
  cases x with
  | no => exact hl.elim
  | mk k t z r f a c n K =>
    cases y with
    | no => exact hl'.elim
    | mk k' t' z' r' f' a' c' n' K' =>
      obtain ⟨hb, hz, hx, hy⟩ := two_facts w k k' t t' z z' r r' f f' a a' c c' n n' K K'
      have hcall := isSame_calls (.mk k t z r f a c n K) (.mk k' t' z' r' f' a' c' n' K') S S _ w.heap.size 0 (w.heap.size + 1) 0 65536 (hl.below hb hS) (hl'.below hb hS) hx hy hn (Nat.le_refl _)
      have Hcall := Lib.hid hcall
      have HB := Lib.hid hb
      clear hcall hx hy hz hb hl hl' hS hn
      unfold Val.agg
      unfold Sames
      generalize same (.mk k t z r f a c n K) (.mk k' t' z' r' f' a' c' n' K') = q at *
      go_enter Tryd.func21, Tryd.ntmps21
      go_wp2_with fail
      refine Hcall.out.mono ?_; rintro en w3 ⟨rfl, m, hm⟩
      have Hm := Lib.hid hm
      clear hm
      go_wp2_with fail
      go_ret
      exact ⟨rfl, bstep HB.out (by rw [Hm.out]; exact below_drewN _ _)⟩

theorem allTo_all {g : Nat → Bool} {n : Nat} (h : ∀ i, i < n → g i = true) : allTo g n = true := by
  induction n with
  | zero => rfl
  | succ n ih => rw [allTo_succ, ih fun i hi => h i (by omega), h n (by omega)]; rfl
theorem maxTo_eq {g h : Nat → Nat} {n : Nat} (e : ∀ i, i < n → g i = h i) : maxTo g n = maxTo h n := by
  induction n with
  | zero => rfl
  | succ n ih => rw [maxTo_succ, maxTo_succ, ih fun i hi => e i (by omega), e n (by omega)]
theorem sumTo_eq {g h : Nat → Nat} {n : Nat} (e : ∀ i, i < n → g i = h i) : sumTo g n = sumTo h n := by
  induction n with
  | zero => rfl
  | succ n ih => rw [sumTo_succ, sumTo_succ, ih fun i hi => e i (by omega), e n (by omega)]
theorem Twin.same {v : Val} : ∀ {v' : Val}, Twin v v' → same v v' = true ∧ same v' v = true := by
  induction v with
  | no => exact fun h => h.elim
  | mk k t z r f a c n K ih =>
    rintro v' ⟨a', c', K', rfl, hk⟩
    rw [same_kids rfl, same_kids rfl]
    exact ⟨allTo_all fun i hi => (ih i (hk i hi)).1, allTo_all fun i hi => (ih i (hk i hi)).2⟩
theorem Twin.nest {v : Val} : ∀ {v' : Val}, Twin v v' → v'.nest = v.nest ∧ v'.count = v.count ∧ v'.depth = v.depth := by
  induction v with
  | no => exact fun h => h.elim
  | mk k t z r f a c n K ih =>
    rintro v' ⟨a', c', K', rfl, hk⟩
    refine ⟨?_, ?_, ?_⟩
    · show 1 + maxTo _ _ = 1 + maxTo _ _
      rw [maxTo_eq fun i hi => (ih i (hk i hi)).1]
    · rw [count_eq, count_eq, sumTo_eq fun i hi => (ih i (hk i hi)).2.1]
    · show (if lists k then 1 + maxTo _ _ else 0) = (if lists k then 1 + maxTo _ _ else 0)
      rw [maxTo_eq fun i hi => (ih i (hk i hi)).2.2]
end Go.Proofs.YtiigfcggdjcmfaaDoor
