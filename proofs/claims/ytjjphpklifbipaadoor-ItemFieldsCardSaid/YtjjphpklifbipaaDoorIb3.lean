/- The checking package's Put of layer 9: the answer as a plain function; one step of its loop. No condition but bounds. -/
import Derived.Test.YtjjphpklifbipaaDoorIb2
namespace Go.Proofs.YtjjphpklifbipaaDoor.Ia
open Go.ChangeShapes Go.WideShapes Go.ChangeAt Go.RowKit
/-- One round of Put: the fields so far, placed. -/
def putS (n t : ByteArray) (s : List Fd × Bool) (f : Fd) : List Fd × Bool :=
  let s1 := if !s.2 && (Op.bytesLess n.toList f.1.toList || n.toList == f.1.toList) then (s.1 ++ [(n, t)], true) else s
  if f.1.toList == n.toList then s1 else (s1.1 ++ [f], s1.2)
def putF (n t : ByteArray) (l : List Fd) : List Fd × Bool := l.foldl (putS n t) ([], false)
theorem putF_take {n t : ByteArray} {l : List Fd} {j : Nat} (hj : j < l.length) : putF n t (l.take (j + 1)) = putS n t (putF n t (l.take j)) l[j] := by
  unfold putF
  rw [← List.take_append_getElem hj, List.foldl_append]
  rfl
theorem putS_len (n t : ByteArray) (s : List Fd × Bool) (f : Fd) : (putS n t s f).1.length ≤ s.1.length + 2 := by
  unfold putS
  simp only []
  split <;> split <;> simp
theorem fold_a {n t : ByteArray} : ∀ (A : List Fd) (o : List Fd), (∀ f ∈ A, lt f.1 n = true) → A.foldl (putS n t) (o, false) = (o ++ A, false)
  | [], o, _ => by simp
  | f :: A, o, h => by
    have hf := h f (List.mem_cons_self ..)
    have e1 : Op.bytesLess n.toList f.1.toList = false := lt_asymm hf
    rw [List.foldl_cons]
    have e : putS n t (o, false) f = (o ++ [f], false) := by simp [putS, e1, lt_ne hf, lt_ne2 hf]
    rw [e, fold_a A _ (fun g hg => h g (List.mem_cons_of_mem _ hg))]
    simp
theorem fold_b {n t : ByteArray} : ∀ (B : List Fd) (o : List Fd), (∀ f ∈ B, lt n f.1 = true) → B.foldl (putS n t) (o, true) = (o ++ B, true)
  | [], o, _ => by simp
  | f :: B, o, h => by
    have hf := h f (List.mem_cons_self ..)
    rw [List.foldl_cons]
    have e : putS n t (o, true) f = (o ++ [f], true) := by simp [putS, lt_ne2 hf]
    rw [e, fold_b B _ (fun g hg => h g (List.mem_cons_of_mem _ hg))]
    simp
theorem Split.putF {n t : ByteArray} {l A M B : List Fd} (h : Split n l A M B) : (if (Ia.putF n t l).2 then (Ia.putF n t l).1 else (Ia.putF n t l).1 ++ [(n, t)]) = A ++ [(n, t)] ++ B := by
  have e : Ia.putF n t l = if M = [] ∧ B = [] then (A, false) else (A ++ [(n, t)] ++ B, true) := by
    unfold Ia.putF
    rw [h.e, List.foldl_append, List.foldl_append, fold_a A [] h.a]
    rcases M_cases h with hM | ⟨x, hM⟩
    · rw [hM]
      cases hB : B with
      | nil => simp
      | cons f B2 =>
        have hf : lt n f.1 = true := h.b f (by rw [hB]; exact List.mem_cons_self ..)
        have hf2 : Op.bytesLess n.toList f.1.toList = true := hf
        have e : putS n t ([] ++ A, false) f = (A ++ [(n, t)] ++ [f], true) := by simp [putS, hf2, lt_ne2 hf]
        rw [List.foldl_nil, List.foldl_cons, e, fold_b B2 _ (fun g hg => h.b g (by rw [hB]; exact List.mem_cons_of_mem _ hg))]
        simp
    · rw [hM]
      have e : putS n t ([] ++ A, false) (n, x) = (A ++ [(n, t)], true) := by simp [putS]
      rw [List.foldl_cons, List.foldl_nil, e, fold_b B _ h.b]
      simp
  rw [e]
  by_cases hMB : M = [] ∧ B = []
  · rw [if_pos hMB, hMB.2]; simp
  · rw [if_neg hMB]; simp
/-- What holds while Put goes round: the row so far, the boxes of the item to be and of the answer. -/
structure PW (w wr : World) (Nb : Nat) (v : Value) (o : List Fd) : Prop where
  row : RowB (Nb + 1) w wr v o
  sz : Nb + 1 ≤ wr.heap.size
  hN : w.heap.size + 1 < Nb
  h1 : Cell3 wr (w.heap.size + 1) (.int .i64 0) (.string ⟨#[]⟩) (.slice none 0 0)
  h2 : Cell3 wr Nb (.int .i64 2) (.string ⟨#[]⟩) v
theorem PW.alloc {w wr : World} {Nb : Nat} {v : Value} {o : List Fd} (h : PW w wr Nb v o) (O : Obj) : PW w (wr.alloc O) Nb v o :=
  ⟨h.row.alloc (by have := h.sz; have := h.hN; omega) O, by have := h.sz; simp; omega, h.hN, h.h1.alloc O, h.h2.alloc O⟩
/-- One field more: what holds behind the append and the store that follows it. -/
theorem put_push {w W : World} {Nb : Nat} {v : Value} {l : List Fd} {ops : Array Oper} {rest : List Oper} {o : Oper} {a : Act} {Q : Exit → Act → World → Prop} (hP : PW w W Nb v l) (hgd : o.guard = none) (s x : Operand)
    (ho : o.op = .call { callee := .builtin .append, args := #[s, x], argTypes := #[22, 22] }) (hs : a.eval s = v) (m : Fd) (arr : Array Value) (Te : TypeId) (c : Nat)
    {b : Nat} (hx : a.eval x = .slice (some ⟨b, 0, none⟩) 1 c) (hb : b = W.heap.size) (harr : arr = #[.string m.1, .string m.2]) (hl : l.length ≤ 1000000000)
    (h : ∀ sa n sc w', PW w (w'.setCell ⟨Nb, 2, none⟩ (.slice sa n sc)) Nb (.slice sa n sc) (l ++ [m]) → w'.cell? ⟨Nb, 2, none⟩ = some v → w'.frozen? ⟨Nb, 2, none⟩ = false → (∀ bx i, bx < W.heap.size → some bx ≠ v.ownBlock → w'.cell? ⟨bx, i, none⟩ = W.cell? ⟨bx, i, none⟩) →
      wpList Tryd.prog ops Q rest (a.put o.dst (.slice sa n sc)) w') : wpList Tryd.prog ops Q (o :: rest) a (W.alloc (.cells arr Te)) := by
  have hsz := hP.sz
  have hN := hP.hN
  refine field_pushB hP.row (by omega) hsz hgd s x ho hs m arr Te c hx hb harr hl ?_
  intro v' w' hR hg
  have hne : ∀ b, b < Nb + 1 → some b ≠ v.ownBlock := fun b hb e => by have := (hP.row.lt b e.symm).1; omega
  have h1 := (hP.h1.alloc (.cells arr Te)).grown hg (hne _ (by omega))
  have h2 := (hP.h2.alloc (.cells arr Te)).grown hg (hne _ (by omega))
  have hsz2 := hg.size
  rw [show (W.alloc (.cells arr Te)).heap.size = W.heap.size + 1 by simp] at hsz2
  obtain ⟨sa, sc, rfl, -, -⟩ := hR.slice
  refine h sa _ sc w' ⟨hR.set (by omega) (by omega) _ _, by simp [World.setCell]; omega, hN, h1.setOther (by omega) _, h2.set2 _⟩ h2.c2 (h2.f 2 (by omega)) (fun bx i hbx hb2 => ?_)
  exact (World.cell?_of_block (a := ⟨bx, i, none⟩) (hg.block bx (by simp; omega) hb2)).trans ((bbox (w := W) (.cells arr Te)).cell (p := ⟨bx, i, none⟩) hbx)
end Go.Proofs.YtjjphpklifbipaaDoor.Ia
