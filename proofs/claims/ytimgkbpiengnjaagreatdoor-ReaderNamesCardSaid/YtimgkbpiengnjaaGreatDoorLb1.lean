/- A row of bytes, and a row of texts, of the call's own that grow, over a world in which all that lay stays (layer 6). No condition but that no row is longer than 10 to the 11. -/
import Derived.Test.YtimgkbpiengnjaaGreatDoorRows
import Derived.Test.YtimgkbpiengnjaaGreatDoorLw3
import Derived.WalkKit
import Derived.ProofKit
import Derived.OpenShut
import Derived.WalkSmall
import Derived.WalkSpells
import Derived.WalkLawsBesides
import Derived.Outline
import Derived.Lib.Hide
import Derived.Lib.LaidTab
import Derived.Deep.RegionWith
import Derived.Deep.LoopGhost
import Derived.OwnWalk
import Derived.IntWalk
import Derived.Lib.AppendStr
import Derived.Laws.AppendOwn
import Derived.Laws.IdiomStrings
import Derived.Lib.Strings
namespace Go.Proofs.YtimgkbpiengnjaaGreatDoor.Ln
open Go.ChangeShapes Go.WideShapes Go.ChangeAt Go.RowKit

theorem bstep {a b c : World} (h : Below a.heap.size a b) (k : Below b.heap.size b c) : Below a.heap.size a c := h.trans (k.mono h.size)
theorem bbox {w : World} (o : Obj) : Below w.heap.size w (w.alloc o) := (Below.refl _ _).alloc (Nat.le_refl _) o

theorem i5 : (Tryz.prog.info? 5).map (fun i => (i.zero, i.size, i.bytes)) = some (some (.int .u8 0), 1, 1) := by kernel_rfl
theorem istr : (Tryz.prog.info? 9).map (fun i => (i.zero, i.size, i.bytes)) = some (some (.string ⟨#[]⟩), 1, 16) := by kernel_rfl
theorem ibs : (Tryz.prog.info? 30).map (fun i => (i.zero, i.size, i.bytes)) = some (some (.slice none 0 0), 1, 24) := by kernel_rfl
/-- A row v of n cells xs of type E (of e bytes each), made behind the world wb; of wb all stands. -/
structure Row (E : TypeId) (wb w : World) (v : Value) (xs : List Value) : Prop where
  row : w.ownsRow wb.heap.size E 1 v xs.length xs
  bel : Below wb.heap.size wb w
variable {E : TypeId}
theorem Row.size {wb w : World} {v : Value} {l : List Value} (h : Row E wb w v l) : wb.heap.size ≤ w.heap.size := h.bel.size
theorem Row.start {wb w : World} (h : Below wb.heap.size wb w) : Row E wb w (.slice none 0 0) [] := ⟨World.ownsRow_nil _ _ _ _, h⟩
theorem Row.nil (w : World) : Row E w w (.slice none 0 0) [] := Row.start (Below.refl _ _)
theorem grow_of0 {w w' : World} (hb : Below w.heap.size w w') : w.grownBy w' none := ⟨hb.os, hb.tape, hb.output, hb.size, fun k hk _ => hb.block k hk⟩
theorem Row.below {wb w w' : World} {v : Value} {l : List Value} (h : Row E wb w v l) (hb : Below w.heap.size w w') : Row E wb w' v l :=
  ⟨h.row.kept (grow_of0 hb) (by cases hv : v.ownBlock <;> simp), h.bel.trans (hb.mono h.size)⟩
theorem Row.grown {wb w w' : World} {v v' : Value} {l l' : List Value} (h : Row E wb w v l) (hr : w'.ownsRow wb.heap.size E 1 v' l'.length l') (hg : w.grownBy w' v.ownBlock) : Row E wb w' v' l' :=
  ⟨hr, h.bel.grown hg h.size (fun k hk => (h.row.lt k hk).1)⟩
theorem Row.alloc {wb w : World} {v : Value} {l : List Value} (h : Row E wb w v l) (o : Obj) : Row E wb (w.alloc o) v l := h.below ((Below.refl _ _).alloc (Nat.le_refl _) o)
/-- What a row's slice is. -/
theorem Row.facts {wb w : World} {v : Value} {l : List Value} (h : Row E wb w v l) :
    ∃ a c, v = .slice a l.length c ∧ l.length ≤ c ∧ c ≤ 9223372036854775807 ∧ (0 < l.length → ∃ g, a = some ⟨g, 0, none⟩ ∧ wb.heap.size ≤ g ∧ g < w.heap.size) ∧ ∀ g o, a = some ⟨g, o, none⟩ → ∀ i (hi : i < l.length), w.cell? ⟨g, o + i, none⟩ = some l[i] := by
  rcases h.row.2 with ⟨rfl, hn⟩ | ⟨g, cap, cur, rfl, hg, hh, h1, h2, h3, h4⟩
  · exact ⟨none, 0, by rw [hn], by omega, by omega, fun h => absurd h (by omega), fun _ _ e => by cases e⟩
  · refine ⟨some ⟨g, 0, none⟩, cap, rfl, h1, by unfold maxLen at h2; omega, fun _ => ⟨g, rfl, hg, (Array.getElem?_eq_some_iff.1 hh).1⟩, fun g2 o2 e i hi => ?_⟩
    injection e with e; injection e with e1 e2; subst e1; subst e2
    have e1 : (cur.toList.take (l.length * 1))[i]? = cur.toList[i]? := List.getElem?_take_of_lt (by omega)
    rw [h4] at e1
    simp only [World.cell?, hh]
    have e2 : l[i]? = some l[i] := List.getElem?_eq_getElem hi
    rw [e2] at e1
    simpa using e1.symm
/-- More, by append(v, x...), x a new block. -/
theorem row_push {wb w : World} {v : Value} {l : List Value} {S : TypeId} {z : Value} {bytes : Nat} (hS : Tryz.prog.underlying S = some (.slice E)) (hI : (Tryz.prog.info? E).map (fun i => (i.zero, i.size, i.bytes)) = some (some z, 1, bytes)) (hz : z.cells.size = 1) (hb2 : bytes ≤ 1000)
    {ops : Array Oper} {rest : List Oper} {o : Oper} {a : Act} {Q : Exit → Act → World → Prop} (hO : Row E wb w v l) (hgd : o.guard = none) (s x : Operand)
    (ho : o.op = .call { callee := .builtin .append, args := #[s, x], argTypes := #[S, S] }) (hs : a.eval s = v) (xs : List Value) (arr : Array Value) (Te : TypeId) (m c : Nat)
    (hx : a.eval x = .slice (some ⟨w.heap.size, 0, none⟩) m c) (hm : m = xs.length) (harr : arr = xs.toArray) (hxs : ∀ u ∈ xs, u.oneCell' = true) (hl : l.length + xs.length ≤ 100000000000)
    (h : ∀ v' w', Row E wb w' v' (l ++ xs) → wpList Tryz.prog ops Q rest (a.put o.dst v') w') : wpList Tryz.prog ops Q (o :: rest) a (w.alloc (.cells arr Te)) := by
  obtain ⟨i0, hi, hz0, hz1, hz2⟩ := info_parts hI
  subst hm harr
  have hsz := hO.size
  refine wpList_append_own _ hgd s x S ho wb.heap.size E i0 z 1 bytes hS hi hz0 hz1 hz2 hz (by decide) v l.length l hs (hO.row.alloc _) ⟨w.heap.size, 0, none⟩ xs.length c xs hx (by omega) ?_ hxs (by unfold maxLen; omega) ?_ (by simp; omega) ?_
  · intro j u hj
    rw [Addr.add_lit, Nat.zero_add, World.cell?_alloc_new]
    simpa using hj
  · exact Nat.le_trans (Nat.mul_le_mul hl hb2) (by omega)
  · intro v' w' hr hg _
    refine h v' w' ((hO.alloc _).grown ?_ hg)
    rw [List.length_append]
    exact hr
/-- Bytes, as the cells of a row. -/
def cellsB (l : List UInt8) : List Value := Lib.byteCells l
def cellsS (l : List (List UInt8)) : List Value := l.map fun t => Value.string ⟨t.toArray⟩
theorem cellsB_len (l : List UInt8) : (cellsB l).length = l.length := Lib.byteCells_length l
theorem cellsB_app (l r : List UInt8) : cellsB (l ++ r) = cellsB l ++ cellsB r := by simp [cellsB, Lib.byteCells]
theorem cellsB_one (l : List UInt8) : ∀ u ∈ cellsB l, u.oneCell' = true := by
  intro u hu
  simp only [cellsB, Lib.byteCells, List.mem_map] at hu
  obtain ⟨b, _, rfl⟩ := hu
  rfl
theorem cellsS_len (l : List (List UInt8)) : (cellsS l).length = l.length := by simp [cellsS]
theorem cellsS_app (l r : List (List UInt8)) : cellsS (l ++ r) = cellsS l ++ cellsS r := by simp [cellsS]
abbrev BufB (wb w : World) (v : Value) (l : List UInt8) : Prop := Row 5 wb w v (cellsB l)
abbrev Strs (wb w : World) (v : Value) (l : List (List UInt8)) : Prop := Row 9 wb w v (cellsS l)
theorem buf_push {wb w : World} {v : Value} {l : List UInt8} {ops : Array Oper} {rest : List Oper} {o : Oper} {a : Act} {Q : Exit → Act → World → Prop} (hO : BufB wb w v l) (hgd : o.guard = none) (s x : Operand)
    (ho : o.op = .call { callee := .builtin .append, args := #[s, x], argTypes := #[30, 30] }) (hs : a.eval s = v) (bs : List UInt8) (arr : Array Value) (Te : TypeId) (m c : Nat)
    (hx : a.eval x = .slice (some ⟨w.heap.size, 0, none⟩) m c) (hm : m = bs.length) (harr : arr = (cellsB bs).toArray) (hl : l.length + bs.length ≤ 100000000000)
    (h : ∀ v' w', BufB wb w' v' (l ++ bs) → wpList Tryz.prog ops Q rest (a.put o.dst v') w') : wpList Tryz.prog ops Q (o :: rest) a (w.alloc (.cells arr Te)) :=
  row_push Tryz.underlying30 i5 rfl (by decide) hO hgd s x ho hs (cellsB bs) arr Te m c hx (by rw [cellsB_len]; exact hm) harr (cellsB_one bs) (by rw [cellsB_len, cellsB_len]; exact hl) fun v' w' hr => h v' w' (by show Row _ _ _ _ _; rw [cellsB_app]; exact hr)
theorem bytes_of (l : List UInt8) : (⟨l.toArray⟩ : ByteArray).data.toList = l := by simp
theorem size_of (l : List UInt8) : (⟨l.toArray⟩ : ByteArray).size = l.length := by simp [ByteArray.size]
theorem text_ext {x y : ByteArray} (h : x.data.toList = y.data.toList) : x = y := by
  cases x with | mk x => cases y with | mk y => exact congrArg ByteArray.mk (Array.toList_inj.1 h)
theorem text_mk (x : ByteArray) : (⟨x.data.toList.toArray⟩ : ByteArray) = x := text_ext (by simp)
theorem len_of (x : ByteArray) : x.data.toList.length = x.size := Array.length_toList
/-- string(b), of any slice whose bytes are known. -/
theorem conv_bytes (w : World) (a : Option Addr) (c : Nat) (l : List UInt8) (h : ∀ i (hi : i < l.length), ∃ ad : Addr, a = some ad ∧ w.cell? (ad.add i) = some (.int .u8 (l[i].toNat : Int))) :
    (convert 30 9 (.slice a l.length c)).run Tryz.prog w = .ok (.string ⟨l.toArray⟩) w := by
  cases a with
  | none =>
    have hl : l = [] := by
      cases l with
      | nil => rfl
      | cons b l =>
        obtain ⟨ad, e, -⟩ := h 0 (by simp)
        cases e
    subst hl
    show (convert 30 9 (.slice none 0 c)).run Tryz.prog w = _
    rw [run_convert_bytes_string w _ _ 5 none 0 c Tryz.underlying30 Tryz.underlying5 Tryz.underlying9]
    rfl
  | some ad =>
    refine run_convert_bytes_back w _ _ 5 ad c l Tryz.underlying30 Tryz.underlying5 Tryz.underlying9 fun j hj => ?_
    obtain ⟨ad2, e, h2⟩ := h j hj
    injection e with e
    subst e
    exact h2
theorem buf_conv {wb w : World} {v : Value} {l : List UInt8} (h : BufB wb w v l) : (convert 30 9 v).run Tryz.prog w = .ok (.string ⟨l.toArray⟩) w := by
  obtain ⟨a, c, rfl, -, -, h1, h2⟩ := h.facts
  have e : (cellsB l).length = l.length := cellsB_len l
  rw [e] at h1 ⊢
  refine conv_bytes w a c l fun i hi => ?_
  obtain ⟨g, rfl, -⟩ := h1 (by omega)
  refine ⟨_, rfl, ?_⟩
  have h3 := h2 g 0 rfl i (by rw [e]; exact hi)
  rw [Addr.add_lit, h3]
  simp [cellsB, Lib.byteCells]
/-- What start-up lays, as far as the walks of layer 6 read it. -/
structure LCtx (w : World) : Prop where
  tab : Lib.TabIs Tryz.prog w "internal/strconv.uint64pow10" .u64 Lib.pow10Tab
  syn : ∃ t p, w.var? Tryz.prog "strconv.ErrSyntax" = some #[.iface t p]
  rng : ∃ t p, w.var? Tryz.prog "strconv.ErrRange" = some #[.iface t p]
theorem var?_lt {P : Program} {W : World} {n : String} {cs : Array Value} (h : W.var? P n = some cs) : ∃ g, P.globalNamed n = some g ∧ g < W.heap.size := by
  unfold World.var? at h
  cases hg : P.globalNamed n with
  | none => simp [hg] at h
  | some g =>
    simp only [hg, Option.bind_some] at h
    refine ⟨g, rfl, ?_⟩
    rcases Nat.lt_or_ge g W.heap.size with h' | h'
    · exact h'
    · simp [Array.getElem?_eq_none h'] at h
theorem var?_belowAll {P : Program} {W W' : World} {n : String} {cs : Array Value} (hb : Below W.heap.size W W') (h : W.var? P n = some cs) : W'.var? P n = some cs := by
  obtain ⟨g, hg, hlt⟩ := var?_lt h
  exact var?_below hb hg hlt h
theorem LCtx.below {w w' : World} (h : LCtx w) (hb : Below w.heap.size w w') : LCtx w' :=
  ⟨var?_belowAll hb h.tab, (let ⟨t, p, e⟩ := h.syn; ⟨t, p, var?_belowAll hb e⟩), (let ⟨t, p, e⟩ := h.rng; ⟨t, p, var?_belowAll hb e⟩)⟩
theorem below_drewN (w : World) (n : Nat) : Below w.heap.size w (w.drewN n) := ⟨rfl, rfl, rfl, by simp [World.drewN], fun i hi => by simp [World.drewN]⟩
/-- A text's rest. -/
theorem tail_of {s : ByteArray} {c : UInt8} {r : List UInt8} (h : s.data.toList = c :: r) : (s.extract 1 s.size).data.toList = r := by
  rw [Lib.extract_data, h]
  have : s.size = r.length + 1 := by rw [← len_of, h]; rfl
  rw [this]
  simp
theorem head_of {s : ByteArray} {c : UInt8} {r : List UInt8} (h : s.data.toList = c :: r) : ∃ h0 : 0 < s.size, s[0]'h0 = c := by
  have hl : 0 < s.size := by rw [← len_of, h]; simp
  refine ⟨hl, ?_⟩
  have e : s.data.toList[0]? = some c := by rw [h]; rfl
  have e2 : s.data.toList[0]'(by rw [len_of]; exact hl) = c := by
    have := List.getElem?_eq_getElem (l := s.data.toList) (i := 0) (by rw [len_of]; exact hl)
    rw [e] at this
    exact (Option.some.inj this).symm
  exact e2
theorem cons_of {s : ByteArray} (h : 0 < s.size) : ∃ c r, s.data.toList = c :: r := by
  cases hl : s.data.toList with
  | nil => have := len_of s; rw [hl] at this; simp at this; omega
  | cons c r => exact ⟨c, r, rfl⟩
end Go.Proofs.YtimgkbpiengnjaaGreatDoor.Ln
