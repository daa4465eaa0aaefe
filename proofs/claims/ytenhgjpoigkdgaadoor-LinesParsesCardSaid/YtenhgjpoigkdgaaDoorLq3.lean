/- Package lines' Quote. Words of at most 4096 bytes, at most 64 of them. -/
import Derived.Test.YtenhgjpoigkdgaaDoorLq2
import Derived.Test.YtenhgjpoigkdgaaDoorLo1
namespace Go.Proofs.YtenhgjpoigkdgaaDoor.Lw
theorem quote_snoc (l : List (List UInt8)) (w : List UInt8) : ∀ i, quoteFrom i (l ++ [w]) = quoteFrom i l ++ ((if i + l.length = 0 then [] else [32]) ++ wordQ (i + l.length) w) := by
  induction l with
  | nil => intro i; simp [quoteFrom]
  | cons x l ih =>
    intro i
    rw [List.cons_append, quoteFrom, quoteFrom, ih, List.length_cons, show i + 1 + l.length = i + (l.length + 1) by omega]
    simp only [List.append_assoc]
theorem qword_len (w : List UInt8) : (qWord w).length ≤ 4 * w.length + 2 := by
  have hq : (w.flatMap qByte).length ≤ 4 * w.length := by
    induction w with
    | nil => simp
    | cons c m ih =>
      rw [List.flatMap_cons, List.length_append, List.length_cons]
      have : (qByte c).length ≤ 4 := by unfold qByte; split; simp; split <;> simp
      omega
  unfold qWord
  rw [List.length_cons, List.length_append, List.length_singleton]
  omega
theorem quote_len (l : List (List UInt8)) (h : ∀ w ∈ l, w.length ≤ 4096) : ∀ i, (quoteFrom i l).length ≤ l.length * 16400 := by
  induction l with
  | nil => intro i; simp [quoteFrom]
  | cons x l ih =>
    intro i
    have h1 := ih (fun w hw => h w (List.mem_cons_of_mem _ hw)) (i + 1)
    have h2 := h x (List.mem_cons_self ..)
    have h3 := qword_len x
    have h4 : (wordQ i x).length ≤ 4 * x.length + 2 := by unfold wordQ; split <;> omega
    have h5 : (if i = 0 then ([] : List UInt8) else [32]).length ≤ 1 := by split <;> simp
    rw [quoteFrom, List.length_append, List.length_append, List.length_cons]
    omega
end Go.Proofs.YtenhgjpoigkdgaaDoor.Lw
namespace Go.Proofs.YtenhgjpoigkdgaaDoor.Ln
open Go.ChangeShapes Go.WideShapes Go.ChangeAt Go.RowKit
/-- The texts l lie at a. -/
def InS (w : World) (a : Option Addr) (l : List (List UInt8)) : Prop := ∀ i (hi : i < l.length), ∃ g, a = some ⟨g, 0, none⟩ ∧ w.cell? ⟨g, i, none⟩ = some (.string ⟨l[i].toArray⟩)
theorem InS.below {w w' : World} {a : Option Addr} {l : List (List UInt8)} (h : InS w a l) (hb : Below w.heap.size w w') : InS w' a l := by
  intro i hi
  obtain ⟨g, e, hc⟩ := h i hi
  refine ⟨g, e, (hb.cell (p := ⟨g, i, none⟩) ?_).trans hc⟩
  show g < w.heap.size
  simp only [World.cell?] at hc
  cases hg : w.heap[g]? with
  | none => rw [hg] at hc; cases hc
  | some o => exact (Array.getElem?_eq_some_iff.1 hg).1
end Go.Proofs.YtenhgjpoigkdgaaDoor.Ln
