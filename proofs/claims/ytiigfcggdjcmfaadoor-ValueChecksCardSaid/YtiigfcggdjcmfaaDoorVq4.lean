/- The document's own of layer 3 at every value; its all and Right. No condition but bounds. -/
import Derived.Test.YtiigfcggdjcmfaaDoorVq2
import Derived.Test.YtiigfcggdjcmfaaDoorVq3
import Derived.Test.YtiigfcggdjcmfaaDoorVp1
namespace Go.Proofs.YtiigfcggdjcmfaaDoor
open Go.ChangeShapes Go.WideShapes Go.ChangeAt Go.RowKit

theorem head_out {k : Int} {t : ByteArray} {z : Int} {r : Nat} {f : Bool} {n : Nat} (h : k < 1 ∨ 14 < k) : headB k t z r f n = false := head_no fun hp => by
  have h4 := hp.2.2.2.1
  unfold textB at h4
  rw [if_neg (by omega), if_neg (by omega), if_neg (by omega), if_neg (by omega), if_neg (by omega)] at h4
  simp at h4
set_option maxHeartbeats 2000000 in
set_option maxRecDepth 100000 in
theorem own_out (k : Int) (t : ByteArray) (z : Int) (r : Nat) (f : Bool) (a : Option Addr) (c n : Nat) (K : Nat → Val) (w : World) (h : k < 1 ∨ 14 < k) :
    Calls Tryd.prog 40 #[(Val.mk k t z r f a c n K).agg] w (Owned k t z r f n w) := by
  have Hf := Lib.hid (head_out (k := k) (t := t) (z := z) (r := r) (f := f) (n := n) h)
  have hbox := fun (o : Obj) => ((Below.refl w.heap.size w).alloc (Nat.le_refl _) o)
  have Hbox := Lib.hid hbox
  clear hbox
  unfold Val.agg
  by_cases h1 : k < 1
  · clear h
    go_enter Tryd.func40, Tryd.ntmps40
    go_wp2_with fail
    go_ret
    exact ⟨by rw [Hf.out]; rfl, Hbox.out _⟩
  · have h2 : 14 < k := by omega
    clear h
    go_enter Tryd.func40, Tryd.ntmps40
    go_wp2_with fail
    go_ret
    exact ⟨by rw [Hf.out]; rfl, Hbox.out _⟩
theorem own_calls (k : Int) (t : ByteArray) (z : Int) (r : Nat) (f : Bool) (a : Option Addr) (c n : Nat) (K : Nat → Val) (w : World) (hr : r < 18446744073709551616) (ht : t.size ≤ 9223372036854775807) (hn : n ≤ 4000000000000) :
    Calls Tryd.prog 40 #[(Val.mk k t z r f a c n K).agg] w (Owned k t z r f n w) := by
  by_cases h : k < 1 ∨ 14 < k
  · exact own_out k t z r f a c n K w h
  · have h : k = 1 ∨ k = 2 ∨ k = 3 ∨ k = 4 ∨ k = 5 ∨ k = 6 ∨ k = 7 ∨ k = 8 ∨ k = 9 ∨ k = 10 ∨ k = 11 ∨ k = 12 ∨ k = 13 ∨ k = 14 := by omega
    rcases h with rfl | rfl | rfl | rfl | rfl | rfl | rfl | rfl | rfl | rfl | rfl | rfl | rfl | rfl
    · exact own_1 t z r f a c n K w hr ht hn
    · exact own_2 t z r f a c n K w hr ht hn
    · exact own_3 t z r f a c n K w hr ht hn
    · exact own_4 t z r f a c n K w hr ht hn
    · exact own_5 t z r f a c n K w hr ht hn
    · exact own_6 t z r f a c n K w hr ht hn
    · exact own_7 t z r f a c n K w hr ht hn
    · exact own_8 t z r f a c n K w hr ht hn
    · exact own_9 t z r f a c n K w hr ht hn
    · exact own_10 t z r f a c n K w hr ht hn
    · exact own_11 t z r f a c n K w hr ht hn
    · exact own_12 t z r f a c n K w hr ht hn
    · exact own_13 t z r f a c n K w hr ht hn
    · exact own_14 t z r f a c n K w hr ht hn

/-- What the document's all answers. -/
def allN : Val → Nat → Bool
  | .no, _ => false
  | .mk k t z r f _ _ n K, d => headB k t z r f n && decide (d ≤ 8) && allTo (fun i => (K i).kind != 14 && allN (K i) (d + 1)) n
theorem allTo_imp {p q : Nat → Bool} {n : Nat} (h : ∀ i, i < n → p i = true → q i = true) (ha : allTo p n = true) : allTo q n = true := by
  induction n with
  | zero => rfl
  | succ n ih =>
    rw [allTo_succ, Bool.and_eq_true] at ha ⊢
    exact ⟨ih (fun i hi => h i (by omega)) ha.1, h n (by omega) ha.2⟩
theorem allN_gs : ∀ (v : Val) (d : Nat), allN v d = true → gs v = true := by
  intro v
  induction v with
  | no => intro d h; exact h
  | mk k t z r f a c n K ih =>
    intro d h
    have h : (headB k t z r f n && decide (d ≤ 8) && allTo (fun i => (K i).kind != 14 && allN (K i) (d + 1)) n) = true := h
    rw [Bool.and_eq_true, Bool.and_eq_true] at h
    show (headB k t z r f n && allTo (fun i => (K i).kind != 14 && gs (K i)) n) = true
    rw [Bool.and_eq_true]
    refine ⟨h.1.1, allTo_imp (fun i hi hp => ?_) h.2⟩
    rw [Bool.and_eq_true] at hp ⊢
    exact ⟨hp.1, ih i (d + 1) hp.2⟩
theorem gs_allN : ∀ (v : Val) (d : Nat), gs v = true → d + v.depth ≤ 8 → allN v d = true := by
  intro v
  induction v with
  | no => intro d h _; exact h
  | mk k t z r f a c n K ih =>
    intro d h hd
    have h : (headB k t z r f n && allTo (fun i => (K i).kind != 14 && gs (K i)) n) = true := h
    rw [Bool.and_eq_true] at h
    have hd : d + (if lists k then 1 + maxTo (fun i => (K i).depth) n else 0) ≤ 8 := hd
    show (headB k t z r f n && decide (d ≤ 8) && allTo (fun i => (K i).kind != 14 && allN (K i) (d + 1)) n) = true
    rw [Bool.and_eq_true, Bool.and_eq_true]
    refine ⟨⟨h.1, decide_eq_true (by omega)⟩, allTo_imp (fun i hi hp => ?_) h.2⟩
    rw [Bool.and_eq_true] at hp ⊢
    rw [if_pos (lists_of_n h.1 (by omega))] at hd
    have := maxTo_le (g := fun i => (K i).depth) hi
    exact ⟨hp.1, ih i (d + 1) hp.2 (by have h9 : (K i).depth ≤ maxTo (fun i => (K i).depth) n := this; omega)⟩
theorem right_check (v : Val) : (allN v 0 && decide (v.depth ≤ 8) && decide (v.count ≤ 1000)) = (checkN v == 0) := by
  rw [check_gs]
  congr 1
  by_cases h : v.depth ≤ 8
  · rw [decide_eq_true h, Bool.and_true, Bool.and_true]
    cases hg : gs v with
    | true => exact gs_allN v 0 hg (by omega)
    | false =>
      cases ha : allN v 0 with
      | false => rfl
      | true => rw [allN_gs v 0 ha] at hg; cases hg
  · rw [decide_eq_false h, Bool.and_false, Bool.and_false]

end Go.Proofs.YtiigfcggdjcmfaaDoor
