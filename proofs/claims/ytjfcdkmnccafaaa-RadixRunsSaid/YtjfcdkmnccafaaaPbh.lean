/- A region that draws its order, in a round; append in it. No condition. -/
import Derived.RangeFuncBox
import Derived.Maps.AppendAt
import Derived.Test.YtjfcdkmnccafaaaPbg
import Derived.Test.YtjfcdkmnccafaaaPa2
namespace Go.Proofs.Ytjfcdkmnccafaaa.Pb
open Go.RowKit Go.Shelf
attribute [local go_sem] Oper.semAt_some
/-- A region that draws its order, in a round: where no operation defers, as outside of it. -/
theorem opIn_round {l n : Nat} {P : Program} {ops : Array Oper} {Q : Exit → Act → World → Prop} {i : Nat} {K K' : Act → World → Prop} {a : Act} {w : World} (hd : ∀ (j : Nat) (o : Oper), ops[j]? = some o → ∀ c, o.op ≠ .defer c) (hK : ∀ a w, K a w → K' a w) (h : wpOpIn Fence.wide n P ops Q i K a w) : wpOpIn (Fence.wide.inRound l) n P ops Q i K' a w := by
  refine wpOpIn_mono hK ?_
  unfold wpOpIn at *
  cases ho : ops[i]? with
  | none => simpa [ho] using h
  | some o =>
    simp only [ho] at h ⊢
    by_cases hw : Region.wanted o (yielded ops a.tmps) = true
    · simp only [hw, if_true] at h ⊢
      unfold Oper.wpIn at *
      refine ⟨fun f hf => h.1 f hf, ?_⟩
      have h2 := h.2
      have e1 : Oper.semAt (Fence.wide.inRound l).round a.eval o = Oper.semAt Fence.wide.round a.eval o := by rw [Oper.semAt_eq _ _ _ (hd i o ho), Oper.semAt_eq _ _ _ (hd i o ho)]
      rw [e1]
      exact h2
    · simp only [hw] at h ⊢
      exact ⟨fun f hf => h.1 f hf, h.2⟩
theorem anyIn_round {l n : Nat} {P : Program} {md : Region.Mode} {ops : Array Oper} {Q : Exit → Act → World → Prop} (hd : ∀ (j : Nat) (o : Oper), ops[j]? = some o → ∀ c, o.op ≠ .defer c) : ∀ (fuel : Nat) (listed : Array Bool) (a : Act) (w : World), wpAnyIn Fence.wide n P md ops Q fuel listed a w → wpAnyIn (Fence.wide.inRound l) n P md ops Q fuel listed a w
  | 0, _, _, _, h => h
  | fuel + 1, _, _, _, h => ⟨h.1, fun i hi => opIn_round hd (fun a w => anyIn_round hd fuel _ a w) (h.2 i hi)⟩
theorem region_round {l n : Nat} {P : Program} {id : Nat} {L : List Oper} {Q : Exit → Act → World → Prop} {a : Act} {w : World} (hm : P.follows .mixedOrders = true) (hd : (L.all fun o => match o.op with | .defer _ => false | _ => true) = true)
    (h : wpAnyIn Fence.wide n P .any L.toArray Q L.toArray.size (Array.replicate L.toArray.size false) a w.drew) : (Code.region id L.toArray true).wpIn (Fence.wide.inRound l) n P Q a w :=
  wpIn_region_any hm (anyIn_round (fun j o ho c hc => by
    have h1 : o ∈ L := by
      rw [List.getElem?_toArray] at ho
      exact List.mem_of_getElem? ho
    have h2 := List.all_eq_true.1 hd o h1
    rw [hc] at h2
    cases h2) _ _ _ _ h)
/-- append, one step of it, outside of a round. -/
theorem opIn_push {n : Nat} {o : Oper} {a : Act} {w : World} {K : Act → World → Prop} {Q : Exit → Act → World → Prop} {base : Nat} {v : Value} {l : List Pa.Mk} (s x : Operand)
    (ho : o.op = .call { callee := .builtin .append, args := #[s, x], argTypes := #[27, 27] }) (hs : a.eval s = v) (hO : w.ownsRow base 45 2 v l.length (Pa.cellsM l)) (hb : base ≤ w.heap.size) (m : Pa.Mk) (Te : TypeId)
    (hx : a.eval x = .slice (some ⟨w.heap.size, 0, none⟩) 1 1) (hl : l.length ≤ 1000000000)
    (h : ∀ v' w', w'.ownsRow base 45 2 v' (l.length + 1) (Pa.cellsM (l ++ [m])) → (w.alloc (.cells #[.string m.1, .int .i64 m.2] Te)).grownBy w' v.ownBlock → K (a.put o.dst v') w') : Oper.wpIn Fence.wide n Try.prog o a (w.alloc (.cells #[.string m.1, .int .i64 m.2] Te)) K Q := by
  obtain ⟨i0, hi, hz0, hz1, hz2⟩ := info_parts Pa.iMk
  have hO2 := hO.kept (World.grownBy_alloc w (.cells #[.string m.1, .int .i64 m.2] Te) none) (by cases v.ownBlock <;> simp)
  obtain ⟨v', w', hrun, r1, r2, r3⟩ := run_append_own (P := Try.prog) (w.alloc (.cells #[.string m.1, .int .i64 m.2] Te)) base 27 o.type 45 i0 (.agg #[.string ⟨#[]⟩, .int .i64 0]) 2 24 Try.underlying27 hi hz0 hz1 hz2 rfl (by decide) v l.length (Pa.cellsM l) hO2 ⟨w.heap.size, 0, none⟩ 1 1 [.string m.1, .int .i64 m.2] rfl
    (fun j u hj => by rw [Addr.add_lit, Nat.zero_add, World.cell?_alloc_new]; simpa using hj)
    (fun u hu => by
      simp only [List.mem_cons, List.not_mem_nil, or_false] at hu
      rcases hu with rfl | rfl <;> rfl) (by unfold maxLen; omega) (by omega) (by simp; omega)
  unfold Oper.wpIn
  refine ⟨?_, ?_⟩
  · simp [Oper.about, ho, resolve, Target.leads, Sem.run_pure]
  · rw [Oper.semAt_eq _ _ _ (by rw [ho]; intro c hc'; cases hc')]
    simp [execOp, ho, resolve, invoke, builtin, hs, hx, hrun, Result.andThen]
    exact h _ _ (by rw [Pa.cellsM_app]; exact r1) r2
theorem boxed_keeps {β : Type} (B : Nat) (t : TypeId) (v : Value) : Own (fun (_ : β) W => Boxed W B t v) := fun s A C row hs hg hr => hs.kept hg (fun e => by
  obtain ⟨o, ho, hc⟩ := hr B e.symm
  rw [show A.heap[B]? = _ from hs] at ho
  cases ho
  cases hc)
end Go.Proofs.Ytjfcdkmnccafaaa.Pb
