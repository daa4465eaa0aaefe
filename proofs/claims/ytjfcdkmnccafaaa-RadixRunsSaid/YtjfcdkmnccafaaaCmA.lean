/- A world that meets what a row of layer 10 asks (the witness), and the last step of a law. No condition. -/
import Derived.Test.YtjfcdkmnccafaaaRows
import Derived.Deep.DeepHandedRow
import Derived.ChangeMaps
import Derived.SizedLaws
import Derived.LaidMore
import Derived.Lay
import Derived.MakeChecks
import Derived.WalkKit
import Derived.ProofKit
import Derived.WideKeyArgs
import Derived.Below
import Derived.OpenShut
import Derived.Test.YtjfcdkmnccafaaaPeB
import Derived.Deep.Slices
import Derived.Deep.Fields
import Derived.Deep.Strs
import Derived.Lib.LaidU8
namespace Go.Proofs.Ytjfcdkmnccafaaa.Cm
open Go.ChangeShapes Go.WideShapes Go.ChangeAt Go.RowKit

theorem i64_bounds {n : Int} (h : (Lit.int .i64 n).wf = true) : -9223372036854775808 ≤ n ∧ n ≤ 9223372036854775807 := by
  have e1 : IntKind.i64.min = -9223372036854775808 := rfl
  have e2 : IntKind.i64.max = 9223372036854775807 := rfl
  simpa [Lit.wf, e1, e2] using h
theorem knob : ownKnob Try.prog.godebug = none := by kernel_rfl
theorem witness_row_sh {H : Type} {enc : TypeId × Value → H} {C : Checked} {os : Os} {f : FuncId} {fn : Func} {s : OpenSpec} {conds : List PathCond} {apart : Bool} {laid : List (String × DataW Unit)} (modest : Bool) (w0 : World) (args : Array Value) (hos : w0.os = os)
    (hsh : (w0.forCall (fun _ _ => 0) ⟨#[], args, []⟩).Shaped C.prog)
    (hok : Input.okWideB C.prog (w0.forCall (fun _ _ => 0) ⟨#[], args, []⟩) f ⟨#[], args, []⟩ = true)
    (hrow : s.preRow enc C.prog fn conds apart laid (w0.forCall (fun _ _ => 0) ⟨#[], args, []⟩).memory args) :
    ∃ (w : World) (tape : Tape) (i : Input), w.os = os ∧ (w.forCall tape i).Shaped C.prog ∧ i.vars = [] ∧ Input.okWide C.prog (w.forCall tape i) .any w.heap.size f i ∧
      s.preRow enc C.prog fn conds apart laid (w.forCall tape i).memory i.args ∧ ({ modest := modest } : Assume).holds C.prog (lone (Frame.enter C.prog f i.args .normal) [] (w.forCall tape i)) :=
  ⟨w0, fun _ _ => 0, ⟨#[], args, []⟩, hos, hsh, (Input.okWide_of_okWideB (base := 0) hok).1, (Input.okWide_of_okWideB hok).2, hrow, by
    simp only [Assume.holds]
    exact ⟨by simp, by simp, fun _ => Modest.zero, by simp, by simp⟩⟩
theorem trodAll_stays {H : Type} {enc : TypeId × Value → H} {P : Program} {base : Nat} (hl : laidOutB P = true) {W W' : World} {sp' : Nat → Bool} : ∀ {ts : List TypeId} {vs : List Value} {ds : List (DataW H)} {ps : List MemPlace},
    (∀ t ∈ ts, P.readableRec t = true ∧ t < P.types.size) → DataW.TrodAll enc P W base (fun _ => true) true ts vs ds ps → (∀ p ∈ ps, W.sameAt W' p) → (∀ p ∈ ps, sp' p.block = true) → DataW.TrodAll enc P W' base sp' true ts vs ds ps := by
  intro ts
  induction ts with
  | nil =>
    intro vs ds ps _ h _ _
    obtain ⟨rfl, rfl, rfl⟩ := trodAll_nil h
    exact trodAll_mk0
  | cons t ts ih =>
    intro vs ds ps hr h hs hp
    obtain ⟨v, vs, d, ds, p, q, rfl, rfl, rfl, h0, h1⟩ := trodAll_cons h
    have h2 := Go.WideElems.Trod_stays hl (hr t (List.mem_cons_self ..)).1 (hr t (List.mem_cons_self ..)).2 h0 (fun x hx => hs x (List.mem_append.2 (.inl hx))) (fun x hx => hp x (List.mem_append.2 (.inl hx)))
    exact trodAll_cons_mk h2 (ih (fun t ht => hr t (List.mem_cons_of_mem _ ht)) h1 (fun x hx => hs x (List.mem_append.2 (.inr hx))) (fun x hx => hp x (List.mem_append.2 (.inr hx))))
theorem post_law {H : Type} {enc : TypeId × Value → H} {P : Program} {f : Func} {s : ChangeSpec} {apart fresh handsOn : Bool} {W W' : World} {args : Array Value} {v : Value} {ds : List (DataW H)} {p : List MemPlace} (hl : laidOutB P = true)
    (hread : ∀ t ∈ f.params.toList, P.readableRec t = true ∧ t < P.types.size)
    (hW : DataW.Whole enc P f.params.toList s.vars apart W args.toList ds [] p) (hA : DataW.TrodAll enc P W 0 (fun _ => true) true f.params.toList args.toList ds p)
    (hvars : s.vars = []) (hleft : (s.fn H ds).vars = []) (hargs : (s.fn H ds).args = ds)
    (hres : ∀ (b : Nat) (sp : Nat → Bool) (hd : Bool), DataW.TrodAll enc P W' b sp hd f.resultTypes.toList (v.resultList f.resultTypes.size) (s.fn H ds).results [])
    (hb : Below W.heap.size W W') : s.post enc P f apart fresh handsOn false W args v W' := by
  have hlt : ∀ x ∈ p, x.block < W.heap.size := fun x hx => hW.lt x hx
  refine ⟨ds, [], p, [], p, [], hW, ?_, ?_, ?_, World.keptBut_mono (fun x hx => ⟨hx, .inr (.inl hx)⟩) (hb.frame (· ∈ p)), fun h => by cases h⟩
  · rw [List.append_nil]; exact hres _ _ _
  · rw [List.append_nil, hargs]
    exact trodAll_stays hl hread hA (fun x hx => hb.same (hlt x hx)) (fun x hx => decide_eq_true (hlt x hx))
  · rw [List.append_nil, hvars, hleft]; rfl

theorem u8_bounds {n : Int} (h : (Lit.int .u8 n).wf = true) : 0 ≤ n ∧ n ≤ 255 := by
  have e1 : IntKind.u8.min = 0 := rfl
  have e2 : IntKind.u8.max = 255 := rfl
  simpa [Lit.wf, e1, e2] using h
end Go.Proofs.Ytjfcdkmnccafaaa.Cm
/- Arguments of type []Act of layer 7, opened. No condition. -/
namespace Go.Proofs.Ytjfcdkmnccafaaa.Cm
open Go.ChangeShapes Go.WideShapes Go.ChangeAt Go.RowKit
open Go.Proofs.Ytjfcdkmnccafaaa.Pb (Ac InA)
theorem k_int : Try.prog.cellsOf 3 = 1 := by kernel_rfl
theorem k_i64 : Try.prog.cellsOf 2 = 1 := by kernel_rfl
theorem k_str : Try.prog.cellsOf 9 = 1 := by kernel_rfl
theorem k_act : Try.prog.cellsOf 29 = 3 := by kernel_rfl
set_option maxRecDepth 100000 in
theorem open_act {H : Type} {enc : TypeId × Value → H} {W : World} {base : Nat} {held : Bool} (fuel : Nat) (cs : List Value) (x : DataW H × List MemPlace) (h : DataW.trod enc Try.prog W base (fun _ => true) held fuel 29 cs = some x) :
    ∃ q : Ac, cs = [.int .i64 q.kd, .string q.k, .int .i64 q.n] ∧ q.k.size ≤ maxLen := by
  obtain ⟨y0, y1, y2, n, rfl, hlen, h0, h1, h2⟩ := Go.Deep.trod_struct3 Try.underlying29 h
  rw [k_act] at hlen
  match cs, hlen with
  | [c0, c1, c2], _ =>
    have h0 : DataW.trod enc Try.prog W base (fun _ => true) held n 3 (List.take (Try.prog.cellsOf 3) [c0, c1, c2]) = some y0 := h0
    rw [k_int] at h0
    have h1 : DataW.trod enc Try.prog W base (fun _ => true) held n 9 (List.take (Try.prog.cellsOf 9) [c1, c2]) = some y1 := h1
    rw [k_str] at h1
    have h2 : DataW.trod enc Try.prog W base (fun _ => true) held n 2 (List.take (Try.prog.cellsOf 2) [c2]) = some y2 := h2
    rw [k_i64] at h2
    obtain ⟨k, e0, -, -⟩ := DataW.trod_int Try.underlying3 h0
    obtain ⟨t, e1, -, hs⟩ := DataW.trod_string Try.underlying9 h1
    obtain ⟨u, e2, -, -⟩ := DataW.trod_int Try.underlying2 h2
    injection e0 with e0 _
    injection e1 with e1 _
    injection e2 with e2 _
    exact ⟨⟨k, t, u⟩, by rw [e0, e1, e2], hs⟩
set_option maxRecDepth 100000 in
theorem open_actsA {H : Type} {enc : TypeId × Value → H} {W : World} {base b0 : Nat} {r : Reach} {held : Bool} {v : Value} {d : DataW H} {ps : List MemPlace} (hv : Value.okWide Try.prog W r b0 22 v)
    (h : DataW.Trod enc Try.prog W base (fun _ => true) held 22 v d ps) :
    ∃ (a : Option Addr) (c : Nat) (l : List Ac), v = .slice a l.length c ∧ InA W a l ∧ ∀ i (h : i < l.length), l[i].k.size ≤ maxLen := by
  obtain ⟨fuel, h⟩ := h
  obtain ⟨a0, len0, cap0, rfl⟩ := okWide_slice Try.underlying22 hv
  rcases DataW.trod_slice Try.underlying22 h with ⟨e, -⟩ | ⟨a, len, cap, elems, rest, n, hf, e, hx, hb, hl, hm, hlen, hel, hsp, -⟩
  · have e : [Value.slice a0 len0 cap0] = [.slice none 0 0] := e
    injection e with e _
    injection e with e1 e2 e3
    subst e1 e2 e3
    exact ⟨none, 0, [], rfl, fun h => absurd h (Nat.lt_irrefl _), fun i h => absurd h (Nat.not_lt_zero _)⟩
  · have e : [Value.slice a0 len0 cap0] = [.slice (some a) len cap] := e
    injection e with e _
    injection e with e1 e2 e3
    subst e1 e2 e3
    have hkid : ∀ i, i < len0 → ∃ q : Ac, (∀ j, j < 3 → W.cell? (a.add (i * 3 + j)) = [Value.int .i64 q.kd, .string q.k, .int .i64 q.n][j]?) ∧ q.k.size ≤ maxLen := by
      intro i hi
      have he := hel i hi
      rw [k_act, List.getElem?_eq_getElem (by omega)] at he
      cases hc : W.cells? base (a.add (i * 3)) 3 with
      | none => rw [hc] at he; cases he
      | some cs' =>
        rw [hc] at he
        obtain ⟨q, rfl, hs⟩ := open_act n _ _ he
        obtain ⟨-, -, hat⟩ := World.cells?_some hc
        exact ⟨q, fun j hj => by rw [← Go.Deep.add_add, hat j hj], hs⟩
    haveI : Inhabited Ac := ⟨⟨0, ⟨#[]⟩, 0⟩⟩
    obtain ⟨K, hK⟩ := Go.Deep.choose_lt hkid
    have hwl : ((List.range len0).map K).length = len0 := by simp
    have eg : ∀ i (h : i < ((List.range len0).map K).length), ((List.range len0).map K)[i] = K i := fun i h => by simp
    refine ⟨some a, cap0, (List.range len0).map K, by rw [hwl], fun hp => ?_, fun i hi => by rw [eg]; exact (hK i (by rw [hwl] at hi; exact hi)).2⟩
    rw [hwl] at hp
    obtain ⟨b, o, sp⟩ := a
    have h0 : W.cell? ⟨b, o + (0 * 3 + 0), sp⟩ = some (.int .i64 (K 0).kd) := (hK 0 hp).1 0 (by omega)
    have hs := cell_spot h0
    subst hs
    refine ⟨b, o, rfl, World.block_lt_of_cell? W _ h0, fun i hi => ?_⟩
    rw [eg]
    rw [hwl] at hi
    have e : ∀ q, (Addr.add ⟨b, o, none⟩ (i * 3 + q)) = ⟨b, o + i * 3 + q, none⟩ := fun q => by rw [Addr.add_lit, Nat.add_assoc]
    exact ⟨by rw [← Nat.add_zero (o + i * 3), ← e 0]; exact (hK i hi).1 0 (by omega), by rw [← e 1]; exact (hK i hi).1 1 (by omega), by rw [← e 2]; exact (hK i hi).1 2 (by omega)⟩
end Go.Proofs.Ytjfcdkmnccafaaa.Cm
