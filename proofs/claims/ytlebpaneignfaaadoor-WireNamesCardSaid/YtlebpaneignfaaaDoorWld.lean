/- What the row of WireNames' listed variables give a walk: of each variable by its own reading. No condition. -/
import Derived.Test.YtlebpaneignfaaaDoorWa2
import Derived.Test.YtlebpaneignfaaaDoorCards
import Derived.Test.YtlebpaneignfaaaDoorTie
import Derived.Test.YtlebpaneignfaaaDoorVPost
import Derived.Test.YtlebpaneignfaaaDoorVopen
import Derived.ChangeMaps
import Derived.SizedLaws
import Derived.LaidMore
import Derived.Lay
import Derived.MakeChecks
import Derived.Lib.LaidU8
import Derived.Shelf.Vars
import Derived.Test.YtlebpaneignfaaaDoorWfA
namespace Go.Proofs.YtlebpaneignfaaaDoor.Ld
open Go.ChangeShapes Go.WideShapes Go.ChangeAt Go.RowKit

theorem nTab : Tryd.prog.globalNamed "internal/strconv.uint64pow10" = some 2 := by kernel_rfl
theorem yTab : (Tryd.prog.globals[2]?).map (·.type) = some 78 := by kernel_rfl
theorem nPow : Tryd.prog.globalNamed "internal/strconv.pow10Tab" = some 9 := by kernel_rfl
theorem yPow : (Tryd.prog.globals[9]?).map (·.type) = some 128 := by kernel_rfl
theorem nOpt : Tryd.prog.globalNamed "internal/strconv.optimize" = some 3 := by kernel_rfl
theorem yOpt : (Tryd.prog.globals[3]?).map (·.type) = some 4 := by kernel_rfl
theorem cTab : Tryd.prog.cellsOf 78 = 20 := by kernel_rfl
theorem cU64 : Tryd.prog.cellsOf 48 = 1 := by kernel_rfl
theorem cPm : Tryd.prog.cellsOf 127 = 2 := by kernel_rfl
theorem cF64 : Tryd.prog.cellsOf 23 = 1 := by kernel_rfl
theorem cUint : Tryd.prog.cellsOf 82 = 1 := by kernel_rfl
theorem cStr : Tryd.prog.cellsOf 9 = 1 := by kernel_rfl
theorem starErr : "*errors.errorString" = "*" ++ "errors.errorString" := by decide
theorem tabEq : (Rows.laid_internal_strconv_uint64pow10 : DataW Unit) = Lib.tabData .u64 Lib.pow10Tab := by kernel_rfl

theorem trod_float {H : Type} {enc : TypeId × Value → H} {P : Program} {w : World} {base : Nat} {spare : Nat → Bool} {held : Bool} {fuel : Nat} {t : TypeId} {cs : List Value} {x : DataW H × List MemPlace} {k : FloatKind}
    (ht : P.underlying t = some (.float k)) (h : DataW.trod enc P w base spare held fuel t cs = some x) : ∃ n, cs = [.float k n] ∧ x = (.lit (.float k n), []) := by
  cases fuel with
  | zero => simp [DataW.trod] at h
  | succ n =>
    unfold DataW.trod at h
    rw [ht] at h
    split at h <;> simp_all

theorem nMarks : Tryd.prog.globalNamed "nearhand/wire.marks" = some 0 := by kernel_rfl
theorem yMarks : (Tryd.prog.globals[0]?).map (·.type) = some 36 := by kernel_rfl
theorem cU8 : Tryd.prog.cellsOf 5 = 1 := by kernel_rfl
theorem marksEq : (Rows.laid_nearhand_wire_marks : DataW Unit) = .agg (marksL.map fun b => .lit (.int .u8 (b.toNat : Int))) := by kernel_rfl
theorem marks_of_reads {w : World} (h : Lib.VarReads Tryd.prog w "nearhand/wire.marks" Rows.laid_nearhand_wire_marks) (i : Nat) (hi : i < 15) :
    w.cell? ⟨0, i, none⟩ = some (.int .u8 ((marksL.getD i 0).toNat : Int)) := by
  obtain ⟨g, t, cs, fuel, p, hg, hty, hvar, hd⟩ := h
  obtain rfl := Option.some.inj (nMarks.symm.trans hg)
  obtain rfl := Option.some.inj (yMarks.symm.trans hty)
  rw [marksEq] at hd
  have hlen : marksL.length = 15 := rfl
  obtain ⟨m, hm⟩ : ∃ m, marksL[i]? = some m := ⟨marksL[i]'(by omega), List.getElem?_eq_getElem (by omega)⟩
  rw [show marksL.getD i 0 = m by rw [List.getD_eq_getElem?_getD, hm]; rfl]
  obtain ⟨fuel', d, q, hdi, he⟩ := Lib.array_elem Tryd.underlying36 hd i hi
  rw [List.getElem?_map, hm] at hdi
  simp only [Option.map_some, Option.some.injEq] at hdi
  subst hdi
  rw [cU8] at he
  obtain ⟨z, hz, hb, -⟩ := DataW.trod_int Tryd.underlying5 he
  have hz2 : z = (m.toNat : Int) := by
    have := congrArg Prod.fst hb
    simp only [DataW.lit.injEq, Lit.int.injEq, true_and] at this
    exact this.symm
  subst hz2
  have e0 := congrArg (·[0]?) hz
  simp only [List.getElem?_take, List.getElem?_drop] at e0
  rw [World.var?_cell hg hvar i, ← Array.getElem?_toList]
  simpa using e0
theorem powEq : (Rows.laid_internal_strconv_pow10Tab : DataW Unit) = .agg (Go.Pinned.pow10Rows.map fun x => .agg [.lit (.int .u64 (x.1 : Int)), .lit (.int .u64 (x.2 : Int))]) := by
  unfold Rows.laid_internal_strconv_pow10Tab Go.Pinned.pow10Tab
  rfl
theorem pow_of_reads {w : World} (h : Lib.VarReads Tryd.prog w "internal/strconv.pow10Tab" Rows.laid_internal_strconv_pow10Tab) (i : Nat) (hi : i < 696) :
    w.cell? ⟨9, 2 * i, none⟩ = some (.int .u64 ((p10Row i).1 : Int)) ∧ w.cell? ⟨9, 2 * i + 1, none⟩ = some (.int .u64 ((p10Row i).2 : Int)) := by
  obtain ⟨g, t, cs, fuel, p, hg, hty, hvar, hd⟩ := h
  obtain rfl := Option.some.inj (nPow.symm.trans hg)
  obtain rfl := Option.some.inj (yPow.symm.trans hty)
  rw [powEq] at hd
  have hlen : Go.Pinned.pow10Rows.length = 696 := by decide +kernel
  have hp : p10Row i = Go.Pinned.pow10Rows.getD i (0, 0) := rfl
  generalize Go.Pinned.pow10Rows = rows at *
  obtain ⟨fuel', d, q, hdi, he⟩ := Lib.array_elem Tryd.underlying128 hd i hi
  rw [List.getElem?_map, List.getElem?_eq_getElem (by omega)] at hdi
  simp only [Option.map_some, Option.some.injEq] at hdi
  have hrow : p10Row i = rows[i]'(by omega) := by
    rw [hp, List.getD_eq_getElem?_getD, List.getElem?_eq_getElem (by omega)]
    rfl
  rw [← hrow] at hdi
  subst hdi
  rw [cPm] at he
  have hcs := Lib.ints_of_struct (zs := [((p10Row i).1 : Int), ((p10Row i).2 : Int)]) Tryd.underlying127 (fun j f hj => by
    match j, hj with
    | 0, hj => simp at hj; subst hj; exact ⟨Tryd.underlying48, rfl, cU64⟩
    | 1, hj => simp at hj; subst hj; exact ⟨Tryd.underlying48, rfl, cU64⟩
    | j + 2, hj => simp at hj) (by rw [cPm]; rfl) he
  have e0 := congrArg (·[0]?) hcs
  have e1 := congrArg (·[1]?) hcs
  simp only [List.getElem?_take, List.getElem?_drop] at e0 e1
  constructor
  · rw [World.var?_cell hg hvar (2 * i), ← Array.getElem?_toList]
    simpa [Nat.mul_comm] using e0
  · rw [World.var?_cell hg hvar (2 * i + 1), ← Array.getElem?_toList]
    simpa [Nat.mul_comm] using e1

theorem opt_of_reads {w : World} (h : Lib.VarReads Tryd.prog w "internal/strconv.optimize" Rows.laid_internal_strconv_optimize) : w.cell? ⟨3, 0, none⟩ = some (.bool true) := by
  obtain ⟨g, t, cs, fuel, p, hg, hty, hvar, hd⟩ := h
  obtain rfl := Option.some.inj (nOpt.symm.trans hg)
  obtain rfl := Option.some.inj (yOpt.symm.trans hty)
  obtain ⟨b, hb, hx⟩ := DataW.trod_bool Tryd.underlying4 hd
  have hb2 : b = true := by
    have := congrArg Prod.fst hx
    simpa [Rows.laid_internal_strconv_optimize] using this.symm
  subst hb2
  rw [World.var?_cell hg hvar 0, ← Array.getElem?_toList, hb]
  rfl

theorem k_bytes_str : Tryd.prog.bytesOf 9 = 16 := by kernel_rfl
set_option maxRecDepth 100000 in
/-- An argument of type []string. -/
theorem open_strs {H : Type} {enc : TypeId × Value → H} {W : World} {base b0 : Nat} {r : Reach} {held : Bool} {v : Value} {d : DataW H} {ps : List MemPlace} (hv : Value.okWide Tryd.prog W r b0 34 v)
    (h : DataW.Trod enc Tryd.prog W base (fun _ => true) held 34 v d ps) (hw : ∀ q ∈ d.weights Tryd.prog 34, q ≤ reachBytes) :
    ∃ (a : Option Addr) (c n : Nat) (T : Nat → ByteArray), v = .slice a n c ∧ n ≤ c ∧ c ≤ 9223372036854775807 ∧ (∀ i, i < n → (T i).size ≤ 281474976710656) ∧ (0 < n → ∃ b o, a = some ⟨b, o, none⟩ ∧ b < W.heap.size) ∧
      ∀ i, i < n → ∀ b o, a = some ⟨b, o, none⟩ → W.cell? ⟨b, o + i, none⟩ = some (.string (T i)) := by
  obtain ⟨fuel, h⟩ := h
  obtain ⟨a0, len0, cap0, rfl⟩ := okWide_slice Tryd.underlying34 hv
  rcases DataW.trod_slice Tryd.underlying34 h with ⟨e, -⟩ | ⟨a, len, cap, elems, rest, n, hf, e, hx, hb, hl, hm, hlen, hel, hsp, -⟩
  · have e : [Value.slice a0 len0 cap0] = [.slice none 0 0] := e
    injection e with e _
    injection e with e1 e2 e3
    subst e1 e2 e3
    exact ⟨none, 0, 0, fun _ => ⟨#[]⟩, rfl, Nat.le_refl _, by omega, fun i hi => absurd hi (by omega), fun h => absurd h (by omega), fun i hi => absurd hi (by omega)⟩
  · have e : [Value.slice a0 len0 cap0] = [.slice (some a) len cap] := e
    injection e with e _
    injection e with e1 e2 e3
    subst e1 e2 e3
    have hx : d = _ := congrArg Prod.fst hx
    subst hx
    obtain ⟨hrl, -⟩ := hsp rfl
    have hbytes : (elems.length + rest.length) * 16 ≤ reachBytes := by
      refine hw _ ?_
      simp only [DataW.weights, Tryd.underlying34, k_bytes_str, List.length_map]
      exact List.mem_cons_self ..
    have hr : reachBytes = 140737488351232 := rfl
    rw [hr] at hbytes
    have hkid : ∀ i, i < len0 → ∃ t : ByteArray, W.cell? (a.add i) = some (.string t) ∧ t.size ≤ 281474976710656 := by
      intro i hi
      have he := hel i hi
      rw [Ld.cStr, List.getElem?_eq_getElem (by omega), Nat.mul_one] at he
      cases hc : W.cells? base (a.add i) 1 with
      | none => rw [hc] at he; cases he
      | some cs' =>
        rw [hc] at he
        obtain ⟨t, rfl, hy, -⟩ := DataW.trod_string Tryd.underlying9 he
        obtain ⟨-, -, hat⟩ := World.cells?_some hc
        have h0 := hat 0 (by omega)
        rw [Go.Deep.add_add] at h0
        refine ⟨t, by simpa using h0, ?_⟩
        have hq := hw t.size (by
          simp only [DataW.weights, Tryd.underlying34]
          refine List.mem_cons_of_mem _ (List.mem_append.2 (.inl ?_))
          refine mem_all (i := i) (d := (elems[i]'(by omega)).1) (by rw [List.getElem?_map, List.getElem?_eq_getElem (by omega)]; rfl) _ ?_
          rw [hy]
          simp only [DataW.weights]
          exact List.mem_singleton.2 Array.length_toList.symm)
        omega
    obtain ⟨b, o, sp⟩ := a
    haveI : Inhabited ByteArray := ⟨⟨#[]⟩⟩
    obtain ⟨T, hT⟩ := Go.Deep.choose_lt hkid
    have hspot : 0 < len0 → sp = none ∧ b < W.heap.size := fun hp => by
      have h0 := (hT 0 hp).1
      have h0 : W.cell? ⟨b, o + 0, sp⟩ = some (.string (T 0)) := by first | exact h0 | (rw [← Addr.add_lit]; exact h0)
      exact ⟨cell_spot h0, World.block_lt_of_cell? W _ h0⟩
    refine ⟨some ⟨b, o, sp⟩, cap0, len0, T, rfl, hl, by omega, fun i hi => (hT i hi).2, fun hp => ?_, fun i hi b2 o2 e => ?_⟩
    · obtain ⟨rfl, hlt⟩ := hspot hp
      exact ⟨b, o, rfl, hlt⟩
    · injection e with e
      injection e with e1 e2 e3
      subst e1 e2 e3
      have h1 := (hT i hi).1
      rw [Addr.add_lit] at h1
      exact h1
theorem maxw {w : World} (h : w.ShapedOpen Tryd.prog) : MaxW w :=
  Go.Proofs.cell_of_shapedOpen_int (zero := #[.int .i64 0]) (t := 3) h (of_decide_eq_true (by kernel_rfl)) (by kernel_rfl) rfl (by kernel_rfl) (by kernel_rfl) Tryd.underlying3
end Go.Proofs.YtlebpaneignfaaaDoor.Ld
