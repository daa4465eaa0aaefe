/- The contract of the document's Parse (layer 1), at texts up to 5,000 bytes: stage01/XRefParse with another bound. -/
import Derived.Test.YtfljonmfkjblhaaGreatDoorWalks
import Derived.IntWalk
import Derived.Deep.DeepCutAuto
namespace Go.Proofs.YtfljonmfkjblhaaGreatDoor
open Go.ChangeShapes Go.WideShapes Go.ChangeAt Go.RowKit

/-- Does the text begin with a minus? -/
def minus (s : ByteArray) : Bool := decide (s.data.toList.head? = some 45)
/-- What stands behind it. -/
def digits (s : ByteArray) : ByteArray := if minus s then s.extract 1 s.size else s

theorem minus_none {s : ByteArray} (h : ¬ 0 < s.size) : minus s = false := by
  have : s.data.toList = [] := by
    have e : s.data.toList.length = s.size := Array.length_toList
    exact List.length_eq_zero_iff.1 (by omega)
  unfold minus; rw [this]; rfl
theorem minus_at {s : ByteArray} (h : 0 < s.size) : minus s = ((s[0].toNat : Int) == 45) := by
  have e : s.data.toList.head? = some s[0] := by
    cases s with | mk d => 
    cases d with | mk l =>
    cases l with
    | nil => simp [ByteArray.size] at h
    | cons c r => rfl
  unfold minus; rw [e, Bool.eq_iff_iff]
  simp only [decide_eq_true_eq, Option.some.injEq, beq_iff_eq]
  constructor
  · intro h; rw [h]; rfl
  · intro h; apply UInt8.toNat_inj.1; show _ = 45; omega

/-- What the document's Parse refuses at once. -/
def badB (d : ByteArray) (b : Bool) : Bool := decide (d.data.toList.length = 0 ∨ 19 < d.data.toList.length ∨ (d.data.toList.head? = some 48 ∧ (1 < d.data.toList.length ∨ b = true)))
theorem len_eq (d : ByteArray) : d.data.toList.length = d.size := Array.length_toList
theorem badB_0 {d : ByteArray} (b : Bool) (h : d.size = 0) : badB d b = true := decide_eq_true (by rw [len_eq]; exact .inl h)
theorem badB_19 {d : ByteArray} (b : Bool) (h : 19 < d.size) : badB d b = true := decide_eq_true (by rw [len_eq]; exact .inr (.inl h))
theorem head_at {d : ByteArray} (h : 0 < d.size) : d.data.toList.head? = some d[0] := by
  cases d with | mk a =>
  cases a with | mk l =>
  cases l with
  | nil => simp [ByteArray.size] at h
  | cons c r => rfl
theorem head_48 {d : ByteArray} (h : 0 < d.size) : (d.data.toList.head? = some 48) ↔ ((d[0].toNat : Int) == 48) = true := by
  rw [head_at h]
  simp only [Option.some.injEq, beq_iff_eq]
  constructor
  · intro h; rw [h]; rfl
  · intro h; apply UInt8.toNat_inj.1; show _ = 48; omega
theorem badB_48 {d : ByteArray} {b : Bool} (hp : 0 < d.size) (h : ((d[0].toNat : Int) == 48) = true) (h1 : 1 < d.size ∨ b = true) : badB d b = true :=
  decide_eq_true (by rw [len_eq]; exact .inr (.inr ⟨(head_48 hp).2 h, h1⟩))
theorem badB_no {d : ByteArray} {b : Bool} (hp : 0 < d.size) (h19 : ¬ 19 < d.size) (h : ((d[0].toNat : Int) == 48) = true → ¬ (1 < d.size ∨ b = true)) : badB d b = false :=
  decide_eq_false (by rw [len_eq]; rintro (a | a | ⟨a, c⟩); omega; omega; exact h ((head_48 hp).1 a) c)
theorem refBody_bad {d : ByteArray} {b : Bool} (h : badB d b = true) : Num.refBody b d.data.toList = (0, 11) := by
  unfold Num.refBody; rw [if_pos (of_decide_eq_true h)]
def finish (b : Bool) : Option Int → Int × Int
  | none => (0, 11)
  | some n => if b then (n, 0) else if n = -9223372036854775808 then (0, 11) else (-n, 0)
theorem refBody_go {d : ByteArray} {b : Bool} (h : badB d b = false) : Num.refBody b d.data.toList = finish b (Num.rl 0 d.data.toList) := by
  unfold Num.refBody; rw [if_neg (of_decide_eq_false h)]; rfl

theorem drop_at {d : ByteArray} {k : Nat} (h : k < d.size) : d.data.toList.drop k = d[k] :: d.data.toList.drop (k + 1) := by
  rw [List.drop_eq_getElem_cons (by rw [len_eq]; exact h)]; rfl
theorem drop_end {d : ByteArray} : d.data.toList.drop d.size = [] := by
  rw [List.drop_eq_nil_iff, len_eq]; exact Nat.le_refl _
theorem rl_bad1 {n : Int} {c : UInt8} {r : List UInt8} (h : (c.toNat : Int) < 48 ∨ 57 < (c.toNat : Int)) : Num.rl n (c :: r) = none := by
  unfold Num.rl; rw [if_pos (by omega)]
theorem rl_bad2 {n : Int} {c : UInt8} {r : List UInt8} (h : n < -922337203685477580 ∨ n = -922337203685477580 ∧ 56 < (c.toNat : Int)) : Num.rl n (c :: r) = none := by
  unfold Num.rl; split
  · rfl
  · rw [if_pos (by omega)]
theorem rl_go {n : Int} {c : UInt8} {r : List UInt8} (h : 48 ≤ (c.toNat : Int) ∧ (c.toNat : Int) ≤ 57) (h2 : -922337203685477580 ≤ n) (h3 : n = -922337203685477580 → (c.toNat : Int) ≤ 56) : Num.rl n (c :: r) = Num.rl (10 * n - ((c.toNat : Int) - 48)) r := by
  conv => lhs; unfold Num.rl
  rw [if_neg (by omega), if_neg (by omega)]

theorem refParse_split (s : ByteArray) : Num.refParse s.data.toList = Num.refBody (minus s) (digits s).data.toList := by
  unfold digits minus
  cases s with | mk a =>
  cases a with | mk l =>
  cases l with
  | nil => rfl
  | cons c r =>
    by_cases h : c = 45
    · subst h
      have e : ((⟨⟨45 :: r⟩⟩ : ByteArray).extract 1 (⟨⟨45 :: r⟩⟩ : ByteArray).size).data.toList = r := by
        rw [Lib.extract_data]; simp [ByteArray.size]
      rw [show decide ((⟨⟨45 :: r⟩⟩ : ByteArray).data.toList.head? = some 45) = true from rfl, if_pos rfl, e]
      rfl
    · simp [Num.refParse, h]

end Go.Proofs.YtfljonmfkjblhaaGreatDoor
