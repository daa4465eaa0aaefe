/- What a row's listed variables give a walk of layer 9, a world that meets them (the witness), and the last step of a law. No condition. -/
import Derived.Test.YtmjlhmohglbecaaGreatDoorCards
import Derived.Test.YtmjlhmohglbecaaGreatDoorTie
import Derived.Deep.DeepHandedRow
import Derived.ChangeMaps
import Derived.SizedLaws
import Derived.LaidMore
import Derived.Lay
import Derived.MakeChecks
import Derived.WalkKit
import Derived.ProofKit
import Derived.Test.YtmjlhmohglbecaaGreatDoorWalks
import Derived.WideKeyArgs
import Derived.Below
import Derived.OpenShut
import Derived.Stop.LaidErr
import Derived.Test.YtmjlhmohglbecaaGreatDoorIaA
import Derived.Deep.Slices
import Derived.Deep.Fields
import Derived.Deep.Strs
import Derived.Lib.LaidU8
import Derived.Test.YtmjlhmohglbecaaGreatDoorSaE
namespace Go.Proofs.YtmjlhmohglbecaaGreatDoor.Im
open Go.ChangeShapes Go.WideShapes Go.ChangeAt Go.RowKit

theorem i64_bounds {n : Int} (h : (Lit.int .i64 n).wf = true) : -9223372036854775808 ≤ n ∧ n ≤ 9223372036854775807 := by
  have e1 : IntKind.i64.min = -9223372036854775808 := rfl
  have e2 : IntKind.i64.max = 9223372036854775807 := rfl
  simpa [Lit.wf, e1, e2] using h
theorem own : ownKnob Tryz.prog.godebug = none := by kernel_rfl
theorem witness_row_sh {H : Type} {enc : TypeId × Value → H} {C : Checked} {os : Os} {f : FuncId} {fn : Func} {s : OpenSpec} {conds : List PathCond} {apart : Bool} {laid : List (String × DataW Unit)} (modest : Bool) (w0 : World) (args : Array Value) (hos : w0.os = os)
    (hsh : (w0.forCall (fun _ _ => 0) ⟨#[], args, []⟩).Shaped C.prog)
    (hok : Input.okWideB C.prog (w0.forCall (fun _ _ => 0) ⟨#[], args, []⟩) f ⟨#[], args, []⟩ = true)
    (hrow : s.preRow enc C.prog fn conds apart laid (w0.forCall (fun _ _ => 0) ⟨#[], args, []⟩).memory args) :
    ∃ (w : World) (tape : Tape) (i : Input), w.os = os ∧ (w.forCall tape i).Shaped C.prog ∧ i.vars = [] ∧ Input.okWide C.prog (w.forCall tape i) .any w.heap.size f i ∧
      s.preRow enc C.prog fn conds apart laid (w.forCall tape i).memory i.args ∧ ({ modest := modest } : Assume).holds C.prog (lone (Frame.enter C.prog f i.args .normal) [] (w.forCall tape i)) :=
  ⟨w0, fun _ _ => 0, ⟨#[], args, []⟩, hos, hsh, (Input.okWide_of_okWideB (base := 0) hok).1, (Input.okWide_of_okWideB hok).2, hrow, by
    simp only [Assume.holds]
    exact ⟨by simp, by simp, fun _ => Modest.zero, by simp, by simp⟩⟩
theorem trodAll_stays {H : Type} {enc : TypeId × Value → H} {P : Program} {base : Nat} (hl : laidOutB P = true) {W W' : World} {sp' : Nat → Bool} : ∀ {ts : List TypeId} {vs : List Value} {ds : List (DataW H)} {ps : List MemPlace},
    (∀ t ∈ ts, P.readableRec t = true ∧ t < P.types.size) → DataW.TrodAll enc P W base (fun _ => true) true ts vs ds ps → (∀ p ∈ ps, W.sameAt W' p) → (∀ p ∈ ps, sp' p.block = true) → DataW.TrodAll enc P W' base sp' true ts vs ds ps := by
  intro ts
  induction ts with
  | nil =>
    intro vs ds ps _ h _ _
    obtain ⟨rfl, rfl, rfl⟩ := trodAll_nil h
    exact trodAll_mk0
  | cons t ts ih =>
    intro vs ds ps hr h hs hp
    obtain ⟨v, vs, d, ds, p, q, rfl, rfl, rfl, h0, h1⟩ := trodAll_cons h
    have h2 := Go.WideElems.Trod_stays hl (hr t (List.mem_cons_self ..)).1 (hr t (List.mem_cons_self ..)).2 h0 (fun x hx => hs x (List.mem_append.2 (.inl hx))) (fun x hx => hp x (List.mem_append.2 (.inl hx)))
    exact trodAll_cons_mk h2 (ih (fun t ht => hr t (List.mem_cons_of_mem _ ht)) h1 (fun x hx => hs x (List.mem_append.2 (.inr hx))) (fun x hx => hp x (List.mem_append.2 (.inr hx))))
theorem post_law {H : Type} {enc : TypeId × Value → H} {P : Program} {f : Func} {s : ChangeSpec} {apart fresh handsOn : Bool} {W W' : World} {args : Array Value} {v : Value} {ds : List (DataW H)} {p : List MemPlace} (hl : laidOutB P = true)
    (hread : ∀ t ∈ f.params.toList, P.readableRec t = true ∧ t < P.types.size)
    (hW : DataW.Whole enc P f.params.toList s.vars apart W args.toList ds [] p) (hA : DataW.TrodAll enc P W 0 (fun _ => true) true f.params.toList args.toList ds p)
    (hvars : s.vars = []) (hleft : (s.fn H ds).vars = []) (hargs : (s.fn H ds).args = ds)
    (hres : ∀ (b : Nat) (sp : Nat → Bool) (hd : Bool), DataW.TrodAll enc P W' b sp hd f.resultTypes.toList (v.resultList f.resultTypes.size) (s.fn H ds).results [])
    (hb : Below W.heap.size W W') : s.post enc P f apart fresh handsOn false W args v W' := by
  have hlt : ∀ x ∈ p, x.block < W.heap.size := fun x hx => hW.lt x hx
  refine ⟨ds, [], p, [], p, [], hW, ?_, ?_, ?_, World.keptBut_mono (fun x hx => ⟨hx, .inr (.inl hx)⟩) (hb.frame (· ∈ p)), fun h => by cases h⟩
  · rw [List.append_nil]; exact hres _ _ _
  · rw [List.append_nil, hargs]
    exact trodAll_stays hl hread hA (fun x hx => hb.same (hlt x hx)) (fun x hx => decide_eq_true (hlt x hx))
  · rw [List.append_nil, hvars, hleft]; rfl

theorem nTab : Tryz.prog.globalNamed "internal/strconv.uint64pow10" = some 2 := by kernel_rfl
theorem yTab : (Tryz.prog.globals[2]?).map (·.type) = some 228 := by kernel_rfl
theorem nSyn : Tryz.prog.globalNamed "strconv.ErrSyntax" = some 0 := by kernel_rfl
theorem ySyn : (Tryz.prog.globals[0]?).map (·.type) = some 196 := by kernel_rfl
theorem nRng : Tryz.prog.globalNamed "strconv.ErrRange" = some 1 := by kernel_rfl
theorem yRng : (Tryz.prog.globals[1]?).map (·.type) = some 196 := by kernel_rfl
theorem cTab : Tryz.prog.cellsOf 228 = 20 := by kernel_rfl
theorem cU64 : Tryz.prog.cellsOf 122 = 1 := by kernel_rfl
theorem cErr : Tryz.prog.cellsOf 226 = 1 := by kernel_rfl
theorem cStr : Tryz.prog.cellsOf 9 = 1 := by kernel_rfl
theorem starErr : "*errors.errorString" = "*" ++ "errors.errorString" := by decide
theorem rowErr (u : TypeId) (h : Tryz.prog.typeName? 3 u = some "*errors.errorString") : u = 224 :=
  typeName_ptr_named (nm := "errors.errorString") (by rw [← starErr]; kernel_rfl) (by kernel_rfl) (by decide) u (by rw [← starErr]; exact h)
theorem tabEq : (Rows.laid_internal_strconv_uint64pow10 : DataW Unit) = Lib.tabData .u64 Lib.pow10Tab := by kernel_rfl
end Go.Proofs.YtmjlhmohglbecaaGreatDoor.Im
/- Arguments of the types api.Item, api.Field, []api.Field, opened. No condition. -/
namespace Go.Proofs.YtmjlhmohglbecaaGreatDoor.Im
open Go.ChangeShapes Go.WideShapes Go.ChangeAt Go.RowKit
open Go.Proofs.YtmjlhmohglbecaaGreatDoor.Ia
theorem k_int : Tryz.prog.cellsOf 3 = 1 := by kernel_rfl
theorem k_str : Tryz.prog.cellsOf 9 = 1 := by kernel_rfl
theorem k_fd : Tryz.prog.cellsOf 69 = 2 := by kernel_rfl
theorem k_fds : Tryz.prog.cellsOf 29 = 1 := by kernel_rfl
theorem k_it : Tryz.prog.cellsOf 31 = 3 := by kernel_rfl
set_option maxRecDepth 100000 in
theorem open_fd {H : Type} {enc : TypeId × Value → H} {W : World} {base : Nat} {held : Bool} (fuel : Nat) (cs : List Value) (x : DataW H × List MemPlace) (h : DataW.trod enc Tryz.prog W base (fun _ => true) held fuel 69 cs = some x) :
    ∃ q : Ia.Fd, cs = [.string q.1, .string q.2] := by
  obtain ⟨xs, n, -, -, hlen, hxl, hall⟩ := DataW.trod_struct Tryz.underlying69 h
  rw [k_fd] at hlen
  match cs, hlen with
  | [c0, c1], _ =>
    match xs, hxl with
    | [y0, y1], _ =>
      have h0 : DataW.trod enc Tryz.prog W base (fun _ => true) held n 9 (List.take (Tryz.prog.cellsOf 9) [c0, c1]) = some y0 := hall 0 _ rfl
      rw [k_str] at h0
      have h1 : DataW.trod enc Tryz.prog W base (fun _ => true) held n 9 (List.take (Tryz.prog.cellsOf 9) [c1]) = some y1 := hall 1 _ rfl
      rw [k_str] at h1
      obtain ⟨s, e0, -, -⟩ := DataW.trod_string Tryz.underlying9 h0
      obtain ⟨t, e1, -, -⟩ := DataW.trod_string Tryz.underlying9 h1
      injection e0 with e0 _
      injection e1 with e1 _
      exact ⟨(s, t), by rw [e0, e1]⟩
/-- Fields that can be read: where they lie. -/
theorem open_list {H : Type} {enc : TypeId × Value → H} {W : World} {base : Nat} {held : Bool} (fuel : Nat) (cs : List Value) (x : DataW H × List MemPlace) (h : DataW.trod enc Tryz.prog W base (fun _ => true) held fuel 29 cs = some x) :
    ∃ (a : Option Addr) (c : Nat) (l : List Ia.Fd), cs = [.slice a l.length c] ∧ l.length ≤ c ∧ c ≤ 9223372036854775807 ∧ InF W a l := by
  rcases DataW.trod_slice Tryz.underlying29 h with ⟨rfl, -⟩ | ⟨a, len, cap, elems, rest, n, hf, rfl, hx, hb, hl, hm, hlen, hel, hsp, -⟩
  · exact ⟨none, 0, [], rfl, Nat.zero_le _, Nat.zero_le _, InF.nil _ _⟩
  · have hkid : ∀ i, i < len → ∃ q : Ia.Fd, ∀ j, j < 2 → W.cell? (a.add (i * 2 + j)) = [Value.string q.1, .string q.2][j]? := by
      intro i hi
      have he := hel i hi
      rw [k_fd, List.getElem?_eq_getElem (by omega)] at he
      cases hc : W.cells? base (a.add (i * 2)) 2 with
      | none => rw [hc] at he; cases he
      | some cs' =>
        rw [hc] at he
        obtain ⟨q, rfl⟩ := open_fd n _ _ he
        obtain ⟨-, -, hat⟩ := World.cells?_some hc
        exact ⟨q, fun j hj => by rw [← Go.Deep.add_add, hat j hj]⟩
    haveI : Inhabited Ia.Fd := ⟨(⟨#[]⟩, ⟨#[]⟩)⟩
    obtain ⟨K, hK⟩ := Go.Deep.choose_lt hkid
    have hwl : ((List.range len).map K).length = len := by simp
    refine ⟨some a, cap, (List.range len).map K, by rw [hwl], by rw [hwl]; exact hl, by unfold maxLen at hm; omega, fun hp => ?_⟩
    rw [hwl] at hp
    obtain ⟨b, o, sp⟩ := a
    have h0 : W.cell? ⟨b, o + (0 * 2 + 0), sp⟩ = some (.string (K 0).1) := hK 0 hp 0 (by omega)
    have hs := cell_spot h0
    subst hs
    refine ⟨b, o, rfl, World.block_lt_of_cell? W _ h0, fun i hi => ?_⟩
    rw [hwl] at hi
    have e : ∀ q, (Addr.add ⟨b, o, none⟩ (i * 2 + q)) = ⟨b, o + i * 2 + q, none⟩ := fun q => by rw [Addr.add_lit, Nat.add_assoc]
    have eg : ((List.range len).map K)[i]'(by rw [hwl]; exact hi) = K i := by simp
    rw [eg]
    exact ⟨by rw [← Nat.add_zero (o + i * 2), ← e 0]; exact hK i hi 0 (by omega), by rw [← e 1]; exact hK i hi 1 (by omega)⟩
set_option maxRecDepth 100000 in
theorem open_item {H : Type} {enc : TypeId × Value → H} {W : World} {base b0 : Nat} {r : Reach} {held : Bool} {v : Value} {d : DataW H} {ps : List MemPlace} (hv : Value.okWide Tryz.prog W r b0 31 v)
    (h : DataW.Trod enc Tryz.prog W base (fun _ => true) held 31 v d ps) :
    ∃ (i : It) (a : Option Addr) (c : Nat), v = .agg #[.int .i64 i.k, .string i.t, .slice a i.l.length c] ∧ i.l.length ≤ c ∧ c ≤ 9223372036854775807 ∧ InF W a i.l := by
  obtain ⟨fuel, hf⟩ := h
  obtain ⟨cs, rfl, -⟩ := okWide_struct Tryz.underlying31 hv
  obtain ⟨y0, y1, y2, n, -, hlen, h0, h1, h2⟩ := Go.Deep.trod_struct3 Tryz.underlying31 hf
  rw [k_it] at hlen
  have hcl : cs.toList.length = 3 := hlen
  obtain ⟨cl⟩ := cs
  match cl, hcl with
  | [c0, c1, c2], _ =>
    have h0 : DataW.trod enc Tryz.prog W base (fun _ => true) held n 3 (List.take (Tryz.prog.cellsOf 3) [c0, c1, c2]) = some y0 := h0
    rw [k_int] at h0
    have h1 : DataW.trod enc Tryz.prog W base (fun _ => true) held n 9 (List.take (Tryz.prog.cellsOf 9) [c1, c2]) = some y1 := h1
    rw [k_str] at h1
    have h2 : DataW.trod enc Tryz.prog W base (fun _ => true) held n 29 (List.take (Tryz.prog.cellsOf 29) [c2]) = some y2 := h2
    rw [k_fds] at h2
    obtain ⟨k, e0, -, -⟩ := DataW.trod_int Tryz.underlying3 h0
    obtain ⟨t, e1, -, -⟩ := DataW.trod_string Tryz.underlying9 h1
    obtain ⟨a, c, l, e2, g1, g2, g3⟩ := open_list n _ _ h2
    injection e0 with e0 _
    injection e1 with e1 _
    injection e2 with e2 _
    subst e0 e1 e2
    exact ⟨⟨k, t, l⟩, a, c, rfl, g1, g2, g3⟩
set_option maxRecDepth 100000 in
theorem open_field {H : Type} {enc : TypeId × Value → H} {W : World} {base b0 : Nat} {r : Reach} {held : Bool} {v : Value} {d : DataW H} {ps : List MemPlace} (hv : Value.okWide Tryz.prog W r b0 69 v)
    (h : DataW.Trod enc Tryz.prog W base (fun _ => true) held 69 v d ps) : ∃ q : Ia.Fd, v = .agg #[.string q.1, .string q.2] := by
  obtain ⟨fuel, hf⟩ := h
  obtain ⟨cs, rfl, -⟩ := okWide_struct Tryz.underlying69 hv
  obtain ⟨q, e⟩ := open_fd fuel _ _ hf
  refine ⟨q, ?_⟩
  have e2 : cs.toList = [.string q.1, .string q.2] := e
  have : cs = #[.string q.1, .string q.2] := by rw [← Array.toList_inj]; exact e2
  rw [this]
set_option maxRecDepth 100000 in
theorem open_fields {H : Type} {enc : TypeId × Value → H} {W : World} {base b0 : Nat} {r : Reach} {held : Bool} {v : Value} {d : DataW H} {ps : List MemPlace} (hv : Value.okWide Tryz.prog W r b0 29 v)
    (h : DataW.Trod enc Tryz.prog W base (fun _ => true) held 29 v d ps) :
    ∃ (a : Option Addr) (c : Nat) (l : List Ia.Fd), v = .slice a l.length c ∧ l.length ≤ c ∧ c ≤ 9223372036854775807 ∧ InF W a l := by
  obtain ⟨fuel, hf⟩ := h
  obtain ⟨a, len, cap, rfl⟩ := okWide_slice Tryz.underlying29 hv
  obtain ⟨a', c, l, e, g⟩ := open_list fuel _ _ hf
  have e : [Value.slice a len cap] = [.slice a' l.length c] := e
  injection e with e _
  exact ⟨a', c, l, e, g⟩
end Go.Proofs.YtmjlhmohglbecaaGreatDoor.Im
/- Arguments of types []Act and [2]uint16, opened. No condition. -/
namespace Go.Proofs.YtmjlhmohglbecaaGreatDoor.Im
set_option linter.unusedVariables false
set_option linter.unusedSimpArgs false
open Go.ChangeShapes Go.WideShapes Go.ChangeAt Go.RowKit
open Go.Proofs.YtmjlhmohglbecaaGreatDoor.Ia Go.Proofs.YtmjlhmohglbecaaGreatDoor.Sa
theorem u16_bounds {n : Int} (h : (Lit.int .u16 n).wf = true) : 0 ≤ n ∧ n ≤ 65535 := by
  have e1 : IntKind.u16.min = 0 := rfl
  have e2 : IntKind.u16.max = 65535 := rfl
  simpa [Lit.wf, e1, e2] using h
theorem k_u16 : Tryz.prog.cellsOf 32 = 1 := by kernel_rfl
theorem k_i64 : Tryz.prog.cellsOf 2 = 1 := by kernel_rfl
theorem k_bool : Tryz.prog.cellsOf 4 = 1 := by kernel_rfl
theorem k_due : Tryz.prog.cellsOf 145 = 2 := by kernel_rfl
theorem k_act : Tryz.prog.cellsOf 34 = 9 := by kernel_rfl
set_option maxRecDepth 100000 in
theorem open_itc {H : Type} {enc : TypeId × Value → H} {W : World} {base : Nat} {held : Bool} (fuel : Nat) (cs : List Value) (x : DataW H × List MemPlace) (h : DataW.trod enc Tryz.prog W base (fun _ => true) held fuel 31 cs = some x) :
    ∃ (i : It) (a : Option Addr) (c : Nat), cs = [.int .i64 i.k, .string i.t, .slice a i.l.length c] ∧ i.l.length ≤ c ∧ c ≤ 9223372036854775807 ∧ InF W a i.l := by
  obtain ⟨y0, y1, y2, n, -, hlen, h0, h1, h2⟩ := Go.Deep.trod_struct3 Tryz.underlying31 h
  rw [k_it] at hlen
  match cs, hlen with
  | [c0, c1, c2], _ =>
    have h0 : DataW.trod enc Tryz.prog W base (fun _ => true) held n 3 (List.take (Tryz.prog.cellsOf 3) [c0, c1, c2]) = some y0 := h0
    rw [k_int] at h0
    have h1 : DataW.trod enc Tryz.prog W base (fun _ => true) held n 9 (List.take (Tryz.prog.cellsOf 9) [c1, c2]) = some y1 := h1
    rw [k_str] at h1
    have h2 : DataW.trod enc Tryz.prog W base (fun _ => true) held n 29 (List.take (Tryz.prog.cellsOf 29) [c2]) = some y2 := h2
    rw [k_fds] at h2
    obtain ⟨k, e0, -, -⟩ := DataW.trod_int Tryz.underlying3 h0
    obtain ⟨t, e1, -, -⟩ := DataW.trod_string Tryz.underlying9 h1
    obtain ⟨a, c, l, e2, g1, g2, g3⟩ := open_list n _ _ h2
    injection e0 with e0 _
    injection e1 with e1 _
    injection e2 with e2 _
    exact ⟨⟨k, t, l⟩, a, c, by rw [e0, e1, e2], g1, g2, g3⟩
set_option maxRecDepth 100000 in
set_option maxHeartbeats 4000000 in
theorem open_act {H : Type} {enc : TypeId × Value → H} {W : World} {base : Nat} {held : Bool} (fuel : Nat) (cs : List Value) (x : DataW H × List MemPlace) (h : DataW.trod enc Tryz.prog W base (fun _ => true) held fuel 34 cs = some x) :
    ∃ q : Ac, cs = cells9 q ∧ q.i.l.length ≤ q.c ∧ q.c ≤ 9223372036854775807 ∧ InF W q.a q.i.l ∧ ((-9223372036854775808 ≤ q.n ∧ q.n ≤ 9223372036854775807) ∧ (-9223372036854775808 ≤ q.wh ∧ q.wh ≤ 9223372036854775807) ∧ q.wt ≤ 65535) := by
  obtain ⟨xs, n, -, -, hlen, hxl, hall⟩ := DataW.trod_struct Tryz.underlying34 h
  rw [k_act] at hlen
  match cs, hlen with
  | [c0, c1, c2, c3, c4, c5, c6, c7, c8], _ =>
    match xs, hxl with
    | [y0, y1, y2, y3, y4, y5, y6], _ =>
      have h0 : DataW.trod enc Tryz.prog W base (fun _ => true) held n 3 (List.take (Tryz.prog.cellsOf 3) [c0, c1, c2, c3, c4, c5, c6, c7, c8]) = some y0 := hall 0 _ rfl
      rw [k_int] at h0
      have h1 : DataW.trod enc Tryz.prog W base (fun _ => true) held n 3 (List.take (Tryz.prog.cellsOf 3) [c1, c2, c3, c4, c5, c6, c7, c8]) = some y1 := hall 1 _ rfl
      rw [k_int] at h1
      have h2 : DataW.trod enc Tryz.prog W base (fun _ => true) held n 9 (List.take (Tryz.prog.cellsOf 9) [c2, c3, c4, c5, c6, c7, c8]) = some y2 := hall 2 _ rfl
      rw [k_str] at h2
      have h3 : DataW.trod enc Tryz.prog W base (fun _ => true) held n 31 (List.take (Tryz.prog.cellsOf 31) [c3, c4, c5, c6, c7, c8]) = some y3 := hall 3 _ rfl
      rw [k_it] at h3
      have h4 : DataW.trod enc Tryz.prog W base (fun _ => true) held n 4 (List.take (Tryz.prog.cellsOf 4) [c6, c7, c8]) = some y4 := hall 4 _ rfl
      rw [k_bool] at h4
      have h5 : DataW.trod enc Tryz.prog W base (fun _ => true) held n 2 (List.take (Tryz.prog.cellsOf 2) [c7, c8]) = some y5 := hall 5 _ rfl
      rw [k_i64] at h5
      have h6 : DataW.trod enc Tryz.prog W base (fun _ => true) held n 32 (List.take (Tryz.prog.cellsOf 32) [c8]) = some y6 := hall 6 _ rfl
      rw [k_u16] at h6
      obtain ⟨kd, e0, -, -⟩ := DataW.trod_int Tryz.underlying3 h0
      obtain ⟨nn, e1, -, w1⟩ := DataW.trod_int Tryz.underlying3 h1
      obtain ⟨k, e2, -, -⟩ := DataW.trod_string Tryz.underlying9 h2
      obtain ⟨i, a, c, e3, g1, g2, g3⟩ := open_itc n _ _ h3
      obtain ⟨kp, e4, -⟩ := DataW.trod_bool Tryz.underlying4 h4
      obtain ⟨wh, e5, -, w5⟩ := DataW.trod_int Tryz.underlying2 h5
      obtain ⟨wt, e6, -, w6⟩ := DataW.trod_int Tryz.underlying32 h6
      injection e0 with e0 _
      injection e1 with e1 _
      injection e2 with e2 _
      injection e3 with e3 e3b
      injection e3b with e3b e3c
      injection e3c with e3c _
      injection e4 with e4 _
      injection e5 with e5 _
      injection e6 with e6 _
      have hw := u16_bounds w6
      obtain ⟨wn, rfl⟩ := Int.eq_ofNat_of_zero_le hw.1
      refine ⟨⟨kd, nn, k, i, a, c, kp, wh, wn⟩, ?_, g1, g2, g3, i64_bounds w1, i64_bounds w5, by show wn ≤ 65535; omega⟩
      rw [e0, e1, e2, e3, e3b, e3c, e4, e5, e6]
      rfl
set_option maxRecDepth 100000 in
theorem open_acts {H : Type} {enc : TypeId × Value → H} {W : World} {base b0 : Nat} {r : Reach} {held : Bool} {v : Value} {d : DataW H} {ps : List MemPlace} (hv : Value.okWide Tryz.prog W r b0 22 v)
    (h : DataW.Trod enc Tryz.prog W base (fun _ => true) held 22 v d ps) :
    ∃ (a : Option Addr) (c : Nat) (l : List Ac), v = .slice a l.length c ∧ InA W a l ∧ ∀ i (h : i < l.length), (-9223372036854775808 ≤ l[i].n ∧ l[i].n ≤ 9223372036854775807) ∧ (-9223372036854775808 ≤ l[i].wh ∧ l[i].wh ≤ 9223372036854775807) ∧ l[i].wt ≤ 65535 := by
  obtain ⟨fuel, h⟩ := h
  obtain ⟨a0, len0, cap0, rfl⟩ := okWide_slice Tryz.underlying22 hv
  rcases DataW.trod_slice Tryz.underlying22 h with ⟨e, -⟩ | ⟨a, len, cap, elems, rest, n, hf, e, hx, hb, hl, hm, hlen, hel, hsp, -⟩
  · have e : [Value.slice a0 len0 cap0] = [.slice none 0 0] := e
    injection e with e _
    injection e with e1 e2 e3
    subst e1 e2 e3
    exact ⟨none, 0, [], rfl, fun h => absurd h (Nat.lt_irrefl _), fun i h => absurd h (Nat.not_lt_zero _)⟩
  · have e : [Value.slice a0 len0 cap0] = [.slice (some a) len cap] := e
    injection e with e _
    injection e with e1 e2 e3
    subst e1 e2 e3
    have hkid : ∀ i, i < len0 → ∃ q : Ac, (∀ j, j < 9 → W.cell? (a.add (i * 9 + j)) = (cells9 q)[j]?) ∧ (q.i.l.length ≤ q.c ∧ q.c ≤ 9223372036854775807 ∧ InF W q.a q.i.l ∧ ((-9223372036854775808 ≤ q.n ∧ q.n ≤ 9223372036854775807) ∧ (-9223372036854775808 ≤ q.wh ∧ q.wh ≤ 9223372036854775807) ∧ q.wt ≤ 65535)) := by
      intro i hi
      have he := hel i hi
      rw [k_act, List.getElem?_eq_getElem (by omega)] at he
      cases hc : W.cells? base (a.add (i * 9)) 9 with
      | none => rw [hc] at he; cases he
      | some cs' =>
        rw [hc] at he
        obtain ⟨q, rfl, hs⟩ := open_act n _ _ he
        obtain ⟨-, -, hat⟩ := World.cells?_some hc
        exact ⟨q, fun j hj => by rw [← Go.Deep.add_add, hat j hj], hs⟩
    haveI : Inhabited Ac := ⟨⟨0, 0, ⟨#[]⟩, ⟨0, ⟨#[]⟩, []⟩, none, 0, false, 0, 0⟩⟩
    obtain ⟨K, hK⟩ := Go.Deep.choose_lt hkid
    have hwl : ((List.range len0).map K).length = len0 := by simp
    have eg : ∀ i (h : i < ((List.range len0).map K).length), ((List.range len0).map K)[i] = K i := fun i h => by simp
    refine ⟨some a, cap0, (List.range len0).map K, by rw [hwl], fun hp => ?_, fun i hi => by rw [eg]; exact (hK i (by rw [hwl] at hi; exact hi)).2.2.2.2⟩
    rw [hwl] at hp
    obtain ⟨b, o, sp⟩ := a
    have h0 : W.cell? ⟨b, o + (0 * 9 + 0), sp⟩ = some (.int .i64 (K 0).kd) := (hK 0 hp).1 0 (by omega)
    have hs := cell_spot h0
    subst hs
    refine ⟨b, o, rfl, World.block_lt_of_cell? W _ h0, fun i hi => ?_⟩
    simp only [eg]
    rw [hwl] at hi
    refine ⟨fun j hj => ?_, (hK i hi).2.2.2.1, (hK i hi).2.1, (hK i hi).2.2.1⟩
    have := (hK i hi).1 j hj
    rw [Addr.add_lit, ← Nat.add_assoc, List.getElem?_eq_getElem (by show j < 9; exact hj)] at this
    exact this
end Go.Proofs.YtmjlhmohglbecaaGreatDoor.Im
