/- What a row's listed variables give a walk ('RCtx'), and a world that meets them (the witness). -/
import Derived.Test.YtnibfebfgdhfgaaGreatDoorFl2
import Derived.Test.YtnibfebfgdhfgaaGreatDoorCards
import Derived.Test.YtnibfebfgdhfgaaGreatDoorTie
import Derived.Deep.DeepHandedRow
import Derived.ChangeMaps
import Derived.SizedLaws
import Derived.LaidMore
import Derived.Lay
import Derived.MakeChecks
import Derived.Lib.LaidU8
namespace Go.Proofs.YtnibfebfgdhfgaaGreatDoor
open Go.ChangeShapes Go.WideShapes Go.ChangeAt Go.RowKit

theorem u64_bounds {n : Int} (h : (Lit.int .u64 n).wf = true) : 0 ≤ n ∧ n ≤ 18446744073709551615 := by
  have e1 : IntKind.u64.min = 0 := rfl
  have e2 : IntKind.u64.max = 18446744073709551615 := rfl
  simpa [Lit.wf, e1, e2] using h
theorem i64_bounds {n : Int} (h : (Lit.int .i64 n).wf = true) : -9223372036854775808 ≤ n ∧ n ≤ 9223372036854775807 := by
  have e1 : IntKind.i64.min = -9223372036854775808 := rfl
  have e2 : IntKind.i64.max = 9223372036854775807 := rfl
  simpa [Lit.wf, e1, e2] using h

theorem own : ownKnob Tryz.prog.godebug = none := by kernel_rfl
theorem nTab : Tryz.prog.globalNamed "internal/strconv.uint64pow10" = some 4 := by kernel_rfl
theorem yTab : (Tryz.prog.globals[4]?).map (·.type) = some 99 := by kernel_rfl
theorem nPow : Tryz.prog.globalNamed "internal/strconv.pow10Tab" = some 7 := by kernel_rfl
theorem yPow : (Tryz.prog.globals[7]?).map (·.type) = some 132 := by kernel_rfl
theorem nOpt : Tryz.prog.globalNamed "internal/strconv.optimize" = some 1 := by kernel_rfl
theorem yOpt : (Tryz.prog.globals[1]?).map (·.type) = some 4 := by kernel_rfl
theorem nInf : Tryz.prog.globalNamed "internal/strconv.float64info" = some 6 := by kernel_rfl
theorem yInf : (Tryz.prog.globals[6]?).map (·.type) = some 111 := by kernel_rfl
theorem nF10 : Tryz.prog.globalNamed "internal/strconv.float64pow10" = some 11 := by kernel_rfl
theorem yF10 : (Tryz.prog.globals[11]?).map (·.type) = some 146 := by kernel_rfl
theorem nSyn : Tryz.prog.globalNamed "strconv.ErrSyntax" = some 2 := by kernel_rfl
theorem ySyn : (Tryz.prog.globals[2]?).map (·.type) = some 40 := by kernel_rfl
theorem nRng : Tryz.prog.globalNamed "strconv.ErrRange" = some 3 := by kernel_rfl
theorem yRng : (Tryz.prog.globals[3]?).map (·.type) = some 40 := by kernel_rfl
theorem cTab : Tryz.prog.cellsOf 99 = 20 := by kernel_rfl
theorem cU64 : Tryz.prog.cellsOf 22 = 1 := by kernel_rfl
theorem cPm : Tryz.prog.cellsOf 131 = 2 := by kernel_rfl
theorem cF64 : Tryz.prog.cellsOf 24 = 1 := by kernel_rfl
theorem cUint : Tryz.prog.cellsOf 87 = 1 := by kernel_rfl
theorem cInfo : Tryz.prog.cellsOf 111 = 3 := by kernel_rfl
theorem cErr : Tryz.prog.cellsOf 127 = 1 := by kernel_rfl
theorem cStr : Tryz.prog.cellsOf 9 = 1 := by kernel_rfl
theorem starErr : "*errors.errorString" = "*" ++ "errors.errorString" := by decide
theorem rowErr (u : TypeId) (h : Tryz.prog.typeName? 3 u = some "*errors.errorString") : u = 125 :=
  typeName_ptr_named (nm := "errors.errorString") (by rw [← starErr]; kernel_rfl) (by kernel_rfl) (by decide) u (by rw [← starErr]; exact h)
theorem tabEq : (Rows.laid_internal_strconv_uint64pow10 : DataW Unit) = Lib.tabData .u64 Lib.pow10Tab := by kernel_rfl
theorem f10Eq : (Rows.laid_internal_strconv_float64pow10 : DataW Unit) = .slice (f10Bits.map fun b => .lit (.float .f64 b)) [] := by kernel_rfl

theorem trod_float {H : Type} {enc : TypeId × Value → H} {P : Program} {w : World} {base : Nat} {spare : Nat → Bool} {held : Bool} {fuel : Nat} {t : TypeId} {cs : List Value} {x : DataW H × List MemPlace} {k : FloatKind}
    (ht : P.underlying t = some (.float k)) (h : DataW.trod enc P w base spare held fuel t cs = some x) : ∃ n, cs = [.float k n] ∧ x = (.lit (.float k n), []) := by
  cases fuel with
  | zero => simp [DataW.trod] at h
  | succ n =>
    unfold DataW.trod at h
    rw [ht] at h
    split at h <;> simp_all

/-- The variables that a row lists. -/
def vars : List (String × DataW Unit) := [("math/bits.deBruijn32tab", Rows.laid_math_bits_deBruijn32tab), ("math/bits.deBruijn64tab", Rows.laid_math_bits_deBruijn64tab), ("internal/strconv.float32info", Rows.laid_internal_strconv_float32info), ("internal/strconv.float64info", Rows.laid_internal_strconv_float64info), ("internal/strconv.optimize", Rows.laid_internal_strconv_optimize), ("internal/strconv.powtab", Rows.laid_internal_strconv_powtab), ("internal/strconv.float64pow10", Rows.laid_internal_strconv_float64pow10), ("internal/strconv.float32pow10", Rows.laid_internal_strconv_float32pow10), ("internal/strconv.uint64pow10", Rows.laid_internal_strconv_uint64pow10), ("strconv.ErrRange", Rows.laid_strconv_ErrRange), ("strconv.ErrSyntax", Rows.laid_strconv_ErrSyntax), ("internal/strconv.leftcheats", Rows.laid_internal_strconv_leftcheats), ("internal/strconv.pow10Tab", Rows.laid_internal_strconv_pow10Tab)]

theorem powEq : (Rows.laid_internal_strconv_pow10Tab : DataW Unit) = .agg (Go.Pinned.pow10Rows.map fun x => .agg [.lit (.int .u64 (x.1 : Int)), .lit (.int .u64 (x.2 : Int))]) := by
  unfold Rows.laid_internal_strconv_pow10Tab Go.Pinned.pow10Tab
  rfl
theorem pow_of_reads {w : World} (h : Lib.VarReads Tryz.prog w "internal/strconv.pow10Tab" Rows.laid_internal_strconv_pow10Tab) (i : Nat) (hi : i < 696) :
    w.cell? ⟨7, 2 * i, none⟩ = some (.int .u64 ((p10Row i).1 : Int)) ∧ w.cell? ⟨7, 2 * i + 1, none⟩ = some (.int .u64 ((p10Row i).2 : Int)) := by
  obtain ⟨g, t, cs, fuel, p, hg, hty, hvar, hd⟩ := h
  obtain rfl := Option.some.inj (nPow.symm.trans hg)
  obtain rfl := Option.some.inj (yPow.symm.trans hty)
  rw [powEq] at hd
  have hlen : Go.Pinned.pow10Rows.length = 696 := by decide +kernel
  have hp : p10Row i = Go.Pinned.pow10Rows.getD i (0, 0) := rfl
  generalize Go.Pinned.pow10Rows = rows at *
  obtain ⟨fuel', d, q, hdi, he⟩ := Lib.array_elem Tryz.underlying132 hd i hi
  rw [List.getElem?_map, List.getElem?_eq_getElem (by omega)] at hdi
  simp only [Option.map_some, Option.some.injEq] at hdi
  have hrow : p10Row i = rows[i]'(by omega) := by
    rw [hp, List.getD_eq_getElem?_getD, List.getElem?_eq_getElem (by omega)]
    rfl
  rw [← hrow] at hdi
  subst hdi
  rw [cPm] at he
  have hcs := Lib.ints_of_struct (zs := [((p10Row i).1 : Int), ((p10Row i).2 : Int)]) Tryz.underlying131 (fun j f hj => by
    match j, hj with
    | 0, hj => simp at hj; subst hj; exact ⟨Tryz.underlying22, rfl, cU64⟩
    | 1, hj => simp at hj; subst hj; exact ⟨Tryz.underlying22, rfl, cU64⟩
    | j + 2, hj => simp at hj) (by rw [cPm]; rfl) he
  have e0 := congrArg (·[0]?) hcs
  have e1 := congrArg (·[1]?) hcs
  simp only [List.getElem?_take, List.getElem?_drop] at e0 e1
  constructor
  · rw [World.var?_cell hg hvar (2 * i), ← Array.getElem?_toList]
    simpa [Nat.mul_comm] using e0
  · rw [World.var?_cell hg hvar (2 * i + 1), ← Array.getElem?_toList]
    simpa [Nat.mul_comm] using e1

theorem opt_of_reads {w : World} (h : Lib.VarReads Tryz.prog w "internal/strconv.optimize" Rows.laid_internal_strconv_optimize) : w.cell? ⟨1, 0, none⟩ = some (.bool true) := by
  obtain ⟨g, t, cs, fuel, p, hg, hty, hvar, hd⟩ := h
  obtain rfl := Option.some.inj (nOpt.symm.trans hg)
  obtain rfl := Option.some.inj (yOpt.symm.trans hty)
  obtain ⟨b, hb, hx⟩ := DataW.trod_bool Tryz.underlying4 hd
  have hb2 : b = true := by
    have := congrArg Prod.fst hx
    simpa [Rows.laid_internal_strconv_optimize] using this.symm
  subst hb2
  rw [World.var?_cell hg hvar 0, ← Array.getElem?_toList, hb]
  rfl

theorem info_of_reads {w : World} (h : Lib.VarReads Tryz.prog w "internal/strconv.float64info" Rows.laid_internal_strconv_float64info) : w.cell? ⟨6, 0, none⟩ = some (.int .u64 52) := by
  obtain ⟨g, t, cs, fuel, p, hg, hty, hvar, hd⟩ := h
  obtain rfl := Option.some.inj (nInf.symm.trans hg)
  obtain rfl := Option.some.inj (yInf.symm.trans hty)
  obtain ⟨xs, n, rfl, hx, hl, hxl, hall⟩ := DataW.trod_struct Tryz.underlying111 hd
  have h1 := hall 0 _ rfl
  have hxs : (xs.map (·.1))[0]? = some (.lit (.int .u64 52)) := by
    have := congrArg Prod.fst hx
    simp only [Rows.laid_internal_strconv_float64info, DataW.agg.injEq] at this
    rw [← this]
    rfl
  rw [List.getElem?_map] at hxs
  cases hx0 : xs[0]? with
  | none => rw [hx0] at hxs; cases hxs
  | some b =>
    rw [hx0] at hxs h1
    obtain ⟨z, hz, hb, _⟩ := DataW.trod_int Tryz.underlying87 h1
    rw [hb] at hxs
    simp only [Option.map_some, Option.some.injEq, DataW.lit.injEq, Lit.int.injEq, true_and] at hxs
    subst hxs
    rw [World.var?_cell hg hvar 0, ← Array.getElem?_toList]
    have := congrArg (·[0]?) hz
    simpa [cUint, List.getElem?_take] using this

theorem f10_of_reads {w : World} (h : Lib.VarReads Tryz.prog w "internal/strconv.float64pow10" Rows.laid_internal_strconv_float64pow10) :
    ∃ R o cap, w.cell? ⟨11, 0, none⟩ = some (.slice (some ⟨R, o, none⟩) 23 cap) ∧ ∀ i, i < 23 → w.cell? ⟨R, o + i, none⟩ = some (.float .f64 (f10Bits.getD i 0)) := by
  obtain ⟨g, t, cs, fuel, p, hg, hty, hvar, hd⟩ := h
  obtain rfl := Option.some.inj (nF10.symm.trans hg)
  obtain rfl := Option.some.inj (yF10.symm.trans hty)
  rw [f10Eq] at hd
  obtain ⟨a, cap, hcs, _, hel⟩ := open_row Tryz.underlying146 cF64 hd
  have hl : (f10Bits.map fun b => (DataW.lit (.float .f64 b) : DataW Unit)).length = 23 := by rw [List.length_map]; decide
  rw [hl] at hcs
  have hb23 : f10Bits.length = 23 := by decide
  have hcell : ∀ i, i < 23 → w.cell? (a.add i) = some (.float .f64 (f10Bits.getD i 0)) := by
    intro i hi
    obtain ⟨v, n, q, hv, hq⟩ := hel i (.lit (.float .f64 (f10Bits.getD i 0))) (by rw [List.getElem?_map, List.getElem?_eq_getElem (by omega)]; simp [List.getD, List.getElem?_eq_getElem (show i < f10Bits.length by omega)])
    obtain ⟨z, hz, hb⟩ := trod_float Tryz.underlying24 hq
    have hz2 : z = f10Bits.getD i 0 := by
      have := congrArg Prod.fst hb
      simp only [DataW.lit.injEq, Lit.float.injEq, true_and] at this
      exact this.symm
    rw [hv, ← hz2]
    simpa using hz
  obtain ⟨R, o, sR⟩ := a
  obtain rfl : sR = none := by
    have h00 := hcell 0 (by omega)
    have : (Addr.add ⟨R, o, sR⟩ 0) = ⟨R, o, sR⟩ := by simp [Addr.add]
    rw [this] at h00
    exact Go.Proofs.cell_spot h00
  refine ⟨R, o, cap, ?_, fun i hi => ?_⟩
  · rw [World.var?_cell hg hvar 0, ← Array.getElem?_toList, hcs]
    rfl
  · rw [← hcell i hi, Addr.add_lit]

theorem ctx_of_laid {W : World} (h0 : laidMetH Tryz.prog vars W) : RCtx W := by
  have h : laidMet Tryz.prog vars W := by rw [MakeChecks.laidMetH_plain _ _ _ (by kernel_rfl)] at h0; exact h0
  have h9 := h.tail.tail.tail.tail.tail.tail.tail.tail
  rw [tabEq] at h9
  obtain ⟨a1, s1, e1, -⟩ := laid_sentinel h9.tail nRng yRng Tryz.underlying40 rowErr Tryz.underlying125 Tryz.underlying127 rfl rfl Tryz.underlying9 cErr cStr
  obtain ⟨a2, s2, e2, -⟩ := laid_sentinel h9.tail.tail nSyn ySyn Tryz.underlying40 rowErr Tryz.underlying125 Tryz.underlying127 rfl rfl Tryz.underlying9 cErr cStr
  exact ⟨⟨Lib.tabIs_of_head nTab yTab Tryz.underlying99 Tryz.underlying22 cU64 cTab h9, pow_of_reads (Lib.laidMet.reads h (by simp [vars])), opt_of_reads (Lib.laidMet.reads h (by simp [vars]))⟩, info_of_reads (Lib.laidMet.reads h (by simp [vars])),
    f10_of_reads (Lib.laidMet.reads h (by simp [vars])), ⟨_, _, e2⟩, ⟨_, _, e1⟩⟩

noncomputable def laidWorld (os : Os) : World := World.laidAll Tryz.prog os vars
theorem laid_os (os : Os) : (laidWorld os).os = os := World.laidAll_os _ _ _
set_option maxRecDepth 100000 in
theorem laid_met (os : Os) (args : Array Value) : laidMet Tryz.prog vars ((laidWorld os).forCall (fun _ _ => 0) ⟨#[], args, []⟩).memory := laidMet_laidAll args (by kernel_rfl) (by kernel_rfl)

theorem witness_row_sh {H : Type} {enc : TypeId × Value → H} {C : Checked} {os : Os} {f : FuncId} {fn : Func} {s : OpenSpec} {conds : List PathCond} {apart : Bool} {laid : List (String × DataW Unit)} (modest : Bool) (w0 : World) (args : Array Value) (hos : w0.os = os)
    (hsh : (w0.forCall (fun _ _ => 0) ⟨#[], args, []⟩).Shaped C.prog)
    (hok : Input.okWideB C.prog (w0.forCall (fun _ _ => 0) ⟨#[], args, []⟩) f ⟨#[], args, []⟩ = true)
    (hrow : s.preRow enc C.prog fn conds apart laid (w0.forCall (fun _ _ => 0) ⟨#[], args, []⟩).memory args) :
    ∃ (w : World) (tape : Tape) (i : Input), w.os = os ∧ (w.forCall tape i).Shaped C.prog ∧ i.vars = [] ∧ Input.okWide C.prog (w.forCall tape i) .any w.heap.size f i ∧
      s.preRow enc C.prog fn conds apart laid (w.forCall tape i).memory i.args ∧ ({ modest := modest } : Assume).holds C.prog (lone (Frame.enter C.prog f i.args .normal) [] (w.forCall tape i)) :=
  ⟨w0, fun _ _ => 0, ⟨#[], args, []⟩, hos, hsh, (Input.okWide_of_okWideB (base := 0) hok).1, (Input.okWide_of_okWideB hok).2, hrow, by
    simp only [Assume.holds]
    exact ⟨by simp, by simp, fun _ => Modest.zero, by simp, by simp⟩⟩
end Go.Proofs.YtnibfebfgdhfgaaGreatDoor
