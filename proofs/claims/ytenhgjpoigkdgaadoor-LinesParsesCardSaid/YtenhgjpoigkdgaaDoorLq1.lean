/- Package lines' isPlain, appendQuoted. No condition but bounds. -/
import Derived.Test.YtenhgjpoigkdgaaDoorLb1
import Derived.Test.YtenhgjpoigkdgaaDoorLx8
import Derived.StillTailTactics
import Derived.Deep.RegionLawGrows
import Derived.Laws.Bits64b
namespace Go.Proofs.YtenhgjpoigkdgaaDoor.Ln
open Go.ChangeShapes Go.WideShapes Go.ChangeAt Go.RowKit

/-- buf_push, as one step of a region that draws its order. -/
theorem step_buf_push {wb w : World} {v : Value} {l : List UInt8} {ops : Array Oper} {o : Oper} {a : Act} {K : Act → World → Prop} {Q : Exit → Act → World → Prop} {E : Prop} {W : World} {arr : Array Value} {Te : TypeId} (hW : W = (w.alloc (.cells arr Te)).drew) (hO : BufB wb w v l) (hgd : o.guard = none) (s x : Operand)
    (ho : o.op = .call { callee := .builtin .append, args := #[s, x], argTypes := #[22, 22] }) (hs : a.eval s = v) (bs : List UInt8) (m c : Nat)
    (hx : a.eval x = .slice (some ⟨w.heap.size, 0, none⟩) m c) (hm : m = bs.length) (harr : arr = (cellsB bs).toArray) (hl : l.length + bs.length ≤ 100000000000)
    (h : ∀ v' w', BufB wb w' v' (l ++ bs) → K (a.put o.dst v') w') : if Region.wanted o (yielded ops a.tmps) = true then Oper.wp Tryd.prog o a W K Q else E := by
  subst hW
  obtain ⟨i0, hi, hz0, hz1, hz2⟩ := info_parts i5
  subst hm harr
  have hsz := hO.size
  have hw : Region.wanted o (yielded ops a.tmps) = true := by simp [Region.wanted, hgd]
  rw [if_pos hw]
  have hcb := cellsB_len bs
  have hO2 : BufB wb (w.alloc (.cells (cellsB bs).toArray Te)).drew v l := (hO.alloc _).below (Below.refl _ _).drew
  have hcl := cellsB_len l
  obtain ⟨v', w', hrun, r1, r2, -⟩ := run_append_own (P := Tryd.prog) (w.alloc (.cells (cellsB bs).toArray Te)).drew wb.heap.size 22 o.type 5 i0 _ 1 1 Tryd.underlying22 hi hz0 hz1 hz2 rfl (by decide) v l.length (cellsB l) (by have := hO2.row; rwa [cellsB_len] at this) ⟨w.heap.size, 0, none⟩ bs.length c (cellsB bs) (by omega) (by
    intro j u hj
    rw [Addr.add_lit, Nat.zero_add]
    show (w.alloc _).cell? _ = _
    rw [World.cell?_alloc_new]
    simpa using hj) (cellsB_one bs) (by unfold maxLen; omega) (by omega) (by show wb.heap.size ≤ (w.alloc _).heap.size; simp; omega)
  unfold Oper.wp
  simp [execOp, ho, resolve, invoke, builtin, hs, hx, hrun, Result.andThen]
  refine h v' w' ?_
  refine hO2.grown ?_ r2
  rw [cellsB_len, List.length_append, cellsB_app]
  exact r1
theorem take_snoc (s : ByteArray) (k : Nat) (h : k < s.size) : s.data.toList.take (k + 1) = s.data.toList.take k ++ [s[k]] := by
  rw [List.take_succ_eq_append_getElem (by rw [len_of]; exact h)]; rfl
def hexS : ByteArray := ⟨#[48, 49, 50, 51, 52, 53, 54, 55, 56, 57, 97, 98, 99, 100, 101, 102]⟩
theorem hex_run (q : Nat) (hq : q < 16) (wx : World) : (Instr.index 9 (.string ⟨#[48, 49, 50, 51, 52, 53, 54, 55, 56, 57, 97, 98, 99, 100, 101, 102]⟩) (.int .u8 (q : Int))).run Tryd.prog wx = .ok (.int .u8 ((Lw.digC q).toNat : Int)) wx := by
  have h : ∀ q : Fin 16, (Instr.index 9 (.string ⟨#[48, 49, 50, 51, 52, 53, 54, 55, 56, 57, 97, 98, 99, 100, 101, 102]⟩) (.int .u8 (q.1 : Int))).run Tryd.prog wx = .ok (.int .u8 ((Lw.digC q.1).toNat : Int)) wx := by
    intro q
    have h1 : ((⟨#[48, 49, 50, 51, 52, 53, 54, 55, 56, 57, 97, 98, 99, 100, 101, 102]⟩ : ByteArray).size : Int) = 16 := rfl
    rw [run_index_string (P := Tryd.prog) (w := wx) 9 _ .u8 _ (by kernel_rfl), dif_pos (by rw [h1]; have := q.2; omega)]
    congr 3
    have h2 : ∀ q : Fin 16, ((⟨#[48, 49, 50, 51, 52, 53, 54, 55, 56, 57, 97, 98, 99, 100, 101, 102]⟩ : ByteArray).data.toList.getD q.1 0).toNat = (Lw.digC q.1).toNat := by decide +kernel
    rw [← h2 q]
    have h3 : q.1 < (⟨#[48, 49, 50, 51, 52, 53, 54, 55, 56, 57, 97, 98, 99, 100, 101, 102]⟩ : ByteArray).data.toList.length := q.2
    rw [List.getD_eq_getElem?_getD, List.getElem?_eq_getElem h3]
    rfl
  exact h ⟨q, hq⟩
theorem shrF : ∀ n : Fin 256, n.1 / 16 < 16 ∧ n.1 % 16 < 16 ∧ bits .and .u8 (n.1 : Int) 15 = ((n.1 % 16 : Nat) : Int) := by decide +kernel
theorem qlen (l m : List UInt8) : (l ++ 34 :: m.flatMap Lw.qByte).length ≤ l.length + 1 + 4 * m.length := by
  have hq : (m.flatMap Lw.qByte).length ≤ 4 * m.length := by
    induction m with
    | nil => simp
    | cons c m ih =>
      rw [List.flatMap_cons, List.length_append, List.length_cons]
      have : (Lw.qByte c).length ≤ 4 := by unfold Lw.qByte; split; simp; split <;> simp
      omega
  rw [List.length_append, List.length_cons]
  omega
end Go.Proofs.YtenhgjpoigkdgaaDoor.Ln
