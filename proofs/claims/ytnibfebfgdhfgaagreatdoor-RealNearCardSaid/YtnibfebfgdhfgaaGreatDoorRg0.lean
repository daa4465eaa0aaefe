/- Small facts for readFloat at digits, a point and a power of ten. Conditions: none. -/
import Derived.Test.YtnibfebfgdhfgaaGreatDoorRf1
import Derived.Test.YtnibfebfgdhfgaaGreatDoorFle
import Derived.Laws.Bits64b
namespace Go.Proofs.YtnibfebfgdhfgaaGreatDoor
open Go.ChangeShapes Go.WideShapes Go.ChangeAt Go.RowKit Go.Sort
open Rf

set_option maxRecDepth 100000 in
theorem or32 : ∀ c : Fin 256, (46 ≤ c.val ∧ c.val ≤ 57) ∨ c.val = 101 → bits .or .u8 (c.val : Int) 32 = (c.val : Int) := by decide
theorem or32' (c : UInt8) (h : (46 ≤ c.toNat ∧ c.toNat ≤ 57) ∨ c.toNat = 101) : bits .or .u8 (c.toNat : Int) 32 = (c.toNat : Int) := or32 ⟨c.toNat, c.toNat_lt⟩ h
theorem stepDot {t : RS} {c : UInt8} {M nd nm : Nat} {dp : Int} {dot dig tr : Bool} (h : t = ⟨M, nd, nm, dp, dot, dig, tr⟩) (hc : c.toNat = 46) : t.step c = ⟨M, nd, nm, nd, true, dig, tr⟩ := by
  subst h; unfold RS.step; rw [if_pos hc]
theorem stepNil {t : RS} {c : UInt8} {M nd nm : Nat} {dp : Int} {dot dig tr : Bool} (h : t = ⟨M, nd, nm, dp, dot, dig, tr⟩) (hc : c.toNat = 48) (hn : nd = 0) : t.step c = ⟨M, nd, nm, dp - 1, dot, true, tr⟩ := by
  subst h; unfold RS.step; rw [if_neg (by omega), if_pos ⟨hc, hn⟩]
theorem stepKeep {t : RS} {c : UInt8} {M nd nm : Nat} {dp : Int} {dot dig tr : Bool} (h : t = ⟨M, nd, nm, dp, dot, dig, tr⟩) (hc : c.toNat ≠ 46) (hn : ¬ (c.toNat = 48 ∧ nd = 0)) (hm : nm < 19) : t.step c = ⟨M * 10 + (c.toNat - 48), nd + 1, nm + 1, dp, dot, true, tr⟩ := by
  subst h; unfold RS.step; rw [if_neg hc, if_neg hn, if_pos hm]
theorem stepCut {t : RS} {c : UInt8} {M nd nm : Nat} {dp : Int} {dot dig tr : Bool} (h : t = ⟨M, nd, nm, dp, dot, dig, tr⟩) (hc : c.toNat ≠ 46) (hn : ¬ (c.toNat = 48 ∧ nd = 0)) (hm : 19 ≤ nm) (h8 : c.toNat ≠ 48) : t.step c = ⟨M, nd + 1, nm, dp, dot, true, true⟩ := by
  subst h; unfold RS.step; rw [if_neg hc, if_neg hn, if_neg (by simp only []; omega), decide_eq_true h8, Bool.or_true]
theorem stepZero {t : RS} {c : UInt8} {M nd nm : Nat} {dp : Int} {dot dig tr : Bool} (h : t = ⟨M, nd, nm, dp, dot, dig, tr⟩) (hc : c.toNat ≠ 46) (hn : ¬ (c.toNat = 48 ∧ nd = 0)) (hm : 19 ≤ nm) (h8 : c.toNat = 48) : t.step c = ⟨M, nd + 1, nm, dp, dot, true, tr⟩ := by
  subst h; unfold RS.step; rw [if_neg hc, if_neg hn, if_neg (by simp only []; omega), decide_eq_false (by omega), Bool.or_false]

/-- What the loop over digits and point asks of its slots. -/
def RSlots (s : ByteArray) (i0 b : Nat) (v t i u p q n nm dp : Value) : Prop :=
  ∃ (j M nd m : Nat) (d : Int) (dot dig tr : Bool), i0 ≤ j ∧ j ≤ b ∧ rsTo s i0 j = ⟨M, nd, m, d, dot, dig, tr⟩ ∧ v = .int .u64 M ∧ t = .bool tr ∧ i = .int .i64 j ∧ u = .bool false ∧ p = .bool dot ∧ q = .bool dig ∧ n = .int .i64 nd ∧ nm = .int .i64 m ∧ dp = .int .i64 d

end Go.Proofs.YtnibfebfgdhfgaaGreatDoor
