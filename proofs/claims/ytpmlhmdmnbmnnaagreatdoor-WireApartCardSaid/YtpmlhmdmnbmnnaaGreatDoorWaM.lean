/- A row of bytes of the call's own that grows, over a world in which all that lay stays; package wire's appendLine, appendCount, appendText, appendNull, flagText. Conditions: the tables hold what start-up lays ('WCtx'); no row longer than 10 to the 11. -/
import Derived.Test.YtpmlhmdmnbmnnaaGreatDoorWqM
import Derived.Test.YtpmlhmdmnbmnnaaGreatDoorFe6
import Derived.Test.YtpmlhmdmnbmnnaaGreatDoorVaM
import Derived.Lib.AppendStr
import Derived.Lib.ItoaLen
import Derived.Shelf.Strconv.Itoa4
import Derived.Test.YtpmlhmdmnbmnnaaGreatDoorVbM
namespace Go.Proofs.YtpmlhmdmnbmnnaaGreatDoor
open Go.ChangeShapes Go.WideShapes Go.ChangeAt Go.RowKit

/-- The bytes l, in a row v that was made behind the world wb; of wb all stands. -/
structure Buf (wb w : World) (v : Value) (l : List UInt8) : Prop where
  row : w.ownsRow wb.heap.size 5 1 v l.length (Lib.byteCells l)
  bel : Below wb.heap.size wb w

theorem Buf.size {wb w : World} {v : Value} {l : List UInt8} (h : Buf wb w v l) : wb.heap.size ≤ w.heap.size := h.bel.size
theorem Buf.nil (w : World) : Buf w w (.slice none 0 0) [] := ⟨World.ownsRow_nil _ _ _ _, Below.refl _ _⟩
theorem Buf.start {wb w : World} (h : Below wb.heap.size wb w) : Buf wb w (.slice none 0 0) [] := ⟨World.ownsRow_nil _ _ _ _, h⟩
theorem grow_of0 {w w' : World} (hb : Below w.heap.size w w') : w.grownBy w' none := ⟨hb.os, hb.tape, hb.output, hb.size, fun k hk _ => hb.block k hk⟩
theorem Buf.below {wb w w' : World} {v : Value} {l : List UInt8} (h : Buf wb w v l) (hb : Below w.heap.size w w') : Buf wb w' v l :=
  ⟨h.row.kept (grow_of0 hb) (by cases hv : v.ownBlock <;> simp), h.bel.trans (hb.mono h.size)⟩
theorem Buf.grown {wb w w' : World} {v v' : Value} {l l' : List UInt8} (h : Buf wb w v l) (hr : w'.ownsRow wb.heap.size 5 1 v' l'.length (Lib.byteCells l')) (hg : w.grownBy w' v.ownBlock) : Buf wb w' v' l' :=
  ⟨hr, h.bel.grown hg h.size (fun k hk => (h.row.lt k hk).1)⟩
theorem Buf.alloc {wb w : World} {v : Value} {l : List UInt8} (h : Buf wb w v l) (o : Obj) : Buf wb (w.alloc o) v l := h.below ((Below.refl _ _).alloc (Nat.le_refl _) o)

theorem buf_push {wb w : World} {v : Value} {l : List UInt8} {ops : Array Oper} {rest : List Oper} {o : Oper} {a : Act} {Q : Exit → Act → World → Prop} (hO : Buf wb w v l) (hgd : o.guard = none) (s x : Operand)
    (ho : o.op = .call { callee := .builtin .append, args := #[s, x], argTypes := #[39, 39] }) (hs : a.eval s = v) (bs : List UInt8) (arr : Array Value) (Te : TypeId) (m c : Nat)
    (hx : a.eval x = .slice (some ⟨w.heap.size, 0, none⟩) m c) (hm : m = bs.length) (harr : arr = (Lib.byteCells bs).toArray) (hl : l.length + bs.length ≤ 100000000000)
    (h : ∀ v' w', Buf wb w' v' (l ++ bs) → wpList Tryz.prog ops Q rest (a.put o.dst v') w') : wpList Tryz.prog ops Q (o :: rest) a (w.alloc (.cells arr Te)) := by
  obtain ⟨i0, hi, hz0, hz1, hz2⟩ := info_parts i5
  subst hm harr
  have hsz := hO.size
  refine wpList_append_own _ hgd s x 39 ho wb.heap.size 5 i0 (.int .u8 0) 1 1 Tryz.underlying39 hi hz0 hz1 hz2 rfl (by decide) v l.length (Lib.byteCells l) hs (hO.row.alloc _) ⟨w.heap.size, 0, none⟩ bs.length c (Lib.byteCells bs) hx
    (by rw [Lib.byteCells_length, Nat.mul_one]) ?_ ?_ (by unfold maxLen; omega) (by omega) (by simp; omega) ?_
  · intro j u hj
    rw [Addr.add_lit, Nat.zero_add, World.cell?_alloc_new]
    simpa using hj
  · intro u hu
    simp only [Lib.byteCells, List.mem_map] at hu
    obtain ⟨b, _, rfl⟩ := hu
    rfl
  · intro v' w' hr hg _
    refine h v' w' ((hO.alloc _).grown ?_ hg)
    rw [List.length_append]
    simpa [Lib.byteCells] using hr
theorem buf_text {wb w : World} {v : Value} {l : List UInt8} {ops : Array Oper} {rest : List Oper} {o : Oper} {a : Act} {Q : Exit → Act → World → Prop} (hO : Buf wb w v l) (hgd : o.guard = none) (s x : Operand)
    (ho : o.op = .call { callee := .builtin .append, args := #[s, x], argTypes := #[39, 9] }) (hs : a.eval s = v) (t : ByteArray) (hx : a.eval x = .string t) (hl : l.length + t.size ≤ 100000000000)
    (h : ∀ v' w', Buf wb w' v' (l ++ t.data.toList) → wpList Tryz.prog ops Q rest (a.put o.dst v') w') : wpList Tryz.prog ops Q (o :: rest) a w := by
  obtain ⟨i0, hi, hz0, hz1, hz2⟩ := info_parts i5
  refine Lib.wpList_append_own_string _ hgd s x 39 9 ho wb.heap.size 5 i0 Tryz.underlying39 Tryz.underlying9 hi hz0 hz1 hz2 v l.length (Lib.byteCells l) hs hO.row t hx (by unfold maxLen; omega) (by omega) hO.size ?_
  intro v' w' hr hg _
  refine h v' w' (hO.grown ?_ hg)
  rw [List.length_append, Array.length_toList]
  have e : Lib.byteCells (l ++ t.data.toList) = Lib.byteCells l ++ Lib.strCells t := by simp [Lib.byteCells, Lib.strCells]
  rw [e]
  exact hr

/-- What a call that appends leaves. -/
def Added (wb : World) (l : List UInt8) (e : Ending) (w' : World) : Prop := ∃ v', e = .returned v' ∧ Buf wb w' v' l

set_option maxHeartbeats 1000000 in
set_option maxRecDepth 100000 in
theorem appendLine_calls (wb w : World) (v : Value) (l : List UInt8) (m : UInt8) (t : ByteArray) (hO : Buf wb w v l) (hl : l.length + t.size + 3 ≤ 100000000000) :
    Calls Tryz.prog 66 #[v, .int .u8 m.toNat, .string t] w (Added wb (l ++ m :: (t.data.toList ++ [13, 10]))) := by
  have Hlt : Hid (t.data.toList.length = t.size) := Lib.hid Array.length_toList
  go_enter Tryz.func66, Tryz.ntmps66
  go_wp2_with (at_builtin; refine buf_push hO rfl _ _ rfl rfl [m] _ _ _ _ rfl rfl rfl ?hl1 ?_)
  case hl1 => rw [List.length_singleton]; omega
  intro v1 w1 hO1
  go_wp2_with (at_builtin; refine buf_text hO1 rfl _ _ rfl rfl t rfl ?hl1 ?_)
  case hl1 => rw [List.length_append, List.length_singleton]; omega
  intro v2 w2 hO2
  go_wp2_with (at_builtin; refine buf_push hO2 rfl _ _ rfl rfl [13, 10] _ _ _ _ rfl rfl rfl ?hl1 ?_)
  case hl1 => have := Hlt.out; simp only [List.length_append, List.length_cons, List.length_nil]; omega
  intro v3 w3 hO3
  go_wp2_with fail
  go_ret
  exact ⟨v3, rfl, hO3⟩
end Go.Proofs.YtpmlhmdmnbmnnaaGreatDoor
/- Package whole's Text; package wire's appendCount, appendText, appendNull, flagText; what a value is as bytes. Conditions: the tables hold what start-up lays ('WCtx'). -/
namespace Go.Proofs.YtpmlhmdmnbmnnaaGreatDoor
open Go.ChangeShapes Go.WideShapes Go.ChangeAt Go.RowKit

def marksL : List UInt8 := [0, 43, 45, 58, 36, 42, 95, 44, 35, 40, 33, 61, 37, 126, 62]
/-- What start-up lays, as far as the walks of package wire read it. -/
structure WCtx (w : World) : Prop extends TCtx w where
  marks : ∀ i, i < 15 → w.cell? ⟨1, i, none⟩ = some (.int .u8 ((marksL.getD i 0).toNat : Int))
theorem WCtx.below {w w' : World} (h : WCtx w) (hb : Below w.heap.size w w') : WCtx w' := ⟨h.toTCtx.below hb, fun i hi => cell_below hb (h.marks i hi)⟩

open Go.Sort in
theorem format10 (n : Int) (h0 : -9223372036854775808 ≤ n) (h1 : n ≤ 9223372036854775807) (w : World) (htab : Lib.TabIs Tryz.prog w "internal/strconv.uint64pow10" .u64 Lib.pow10Tab) :
    Calls Tryz.prog 93 #[.int .i64 n, .int .i64 10] w fun e w' => e = .returned (.string ⟨(Lib.itoa n).toArray⟩) ∧ ∃ k os, w' = grow (w.drewN k) os := Any.strconv_FormatInt_10 Tryz.laysM173 n h0 h1 w htab
theorem below_grow (w : World) (k : Nat) (os : Array Obj) : Below w.heap.size w (Go.Sort.grow (w.drewN k) os) :=
  ⟨rfl, rfl, rfl, by simp [Go.Sort.grow, World.drewN], fun i hi => by
    show (w.heap ++ os)[i]? = w.heap[i]?
    exact Array.getElem?_append_left hi⟩
theorem whText_calls (n : Int) (h0 : -9223372036854775808 ≤ n) (h1 : n ≤ 9223372036854775807) (w : World) (hc : TCtx w) :
    Calls Tryz.prog 67 #[.int .i64 n] w fun e w' => e = .returned (.string ⟨(Lib.itoa n).toArray⟩) ∧ Below w.heap.size w w' := by
  have H := Lib.hid hc; clear hc
  go_enter Tryz.func67, Tryz.ntmps67
  go_wp2_with (go_at_call 93; refine (format10 n h0 h1 _ H.out.tab).mono ?_; rintro e w' ⟨rfl, k, os, rfl⟩)
  go_ret
  exact ⟨rfl, below_grow _ _ _⟩
theorem flagText_calls (f : Bool) (w : World) : Calls Tryz.prog 68 #[.bool f] w fun e w' => e = .returned (.string ⟨(if f then [116] else [102] : List UInt8).toArray⟩) ∧ w = w' := by
  cases f <;> (go_enter Tryz.func68, Tryz.ntmps68; go_wp2; go_ret; exact ⟨rfl, rfl⟩)

theorem bytes_of (l : List UInt8) : (⟨l.toArray⟩ : ByteArray).data.toList = l := by simp
theorem size_of (l : List UInt8) : (⟨l.toArray⟩ : ByteArray).size = l.length := by simp [ByteArray.size]
theorem itoa_len (n : Int) (h0 : -9223372036854775808 ≤ n) (h1 : n ≤ 9223372036854775807) : (Lib.itoa n).length ≤ 21 := Lib.itoa_length_le n (by omega) (by omega)

set_option maxHeartbeats 1000000 in
set_option maxRecDepth 100000 in
theorem appendCount_calls (wb w : World) (v : Value) (l : List UInt8) (m : UInt8) (n : Nat) (hO : Buf wb w v l) (hc : WCtx wb) (hn : n ≤ 4000000000000) (hl : l.length + 24 ≤ 100000000000) :
    Calls Tryz.prog 54 #[v, .int .u8 m.toNat, .int .i64 n] w (Added wb (l ++ m :: (Lib.itoa n ++ [13, 10]))) := by
  have Hc := Lib.hid (hc.below hO.bel)
  have H1 := Lib.hid fun w2 (h2 : Below w.heap.size w w2) => whText_calls (n : Int) (by omega) (by omega) w2 (Hc.out.toTCtx.below h2)
  have hlen := itoa_len (n : Int) (by omega) (by omega)
  have hcall := fun w2 (h2 : Below w.heap.size w w2) => appendLine_calls wb w2 v l m ⟨(Lib.itoa n).toArray⟩ (hO.below h2) (by rw [size_of]; omega)
  rw [bytes_of] at hcall
  have Hcall := Lib.hid hcall
  clear hcall hO hc hlen
  go_enter Tryz.func54, Tryz.ntmps54
  go_wp2_with fail
  refine (H1.out _ (Below.refl _ _)).mono ?_; rintro en w1 ⟨rfl, hb1⟩
  have Hb1 := Lib.hid hb1
  clear hb1
  go_wp2_with fail
  refine (Hcall.out _ Hb1.out).mono ?_; rintro en w2 ⟨v2, rfl, hO2⟩
  have HO2 := Lib.hid hO2
  clear hO2
  go_wp2_with fail
  go_ret
  exact ⟨v2, rfl, HO2.out⟩

set_option maxHeartbeats 1000000 in
set_option maxRecDepth 100000 in
theorem appendText_calls (wb w : World) (v : Value) (l : List UInt8) (m : UInt8) (t : ByteArray) (hO : Buf wb w v l) (hc : WCtx wb) (ht : t.size ≤ 1000000000) (hl : l.length + t.size + 27 ≤ 100000000000) :
    Calls Tryz.prog 55 #[v, .int .u8 m.toNat, .string t] w (Added wb (l ++ (m :: (Lib.itoa t.size ++ [13, 10])) ++ (t.data.toList ++ [13, 10]))) := by
  have hlen := itoa_len (t.size : Int) (by omega) (by omega)
  have Hcall := Lib.hid (appendCount_calls wb w v l m t.size hO hc (by omega) (by omega))
  have Hlt : Hid (t.data.toList.length = t.size) := Lib.hid Array.length_toList
  clear hO hc
  go_enter Tryz.func55, Tryz.ntmps55
  go_wp2_with fail
  refine Hcall.out.mono ?_; rintro en w1 ⟨v1, rfl, hO1⟩
  have HO1 := Lib.hid hO1
  clear hO1
  go_wp2_with (at_builtin; refine buf_text HO1.out rfl _ _ rfl rfl t rfl ?hl1 ?_)
  case hl1 => simp only [List.length_append, List.length_cons, List.length_nil]; omega
  intro v2 w2 hO2
  have HO2 := Lib.hid hO2
  clear hO2
  go_wp2_with (at_builtin; refine buf_push HO2.out rfl _ _ rfl rfl [13, 10] _ _ _ _ rfl rfl rfl ?hl1 ?_)
  case hl1 => have := Hlt.out; simp only [List.length_append, List.length_cons, List.length_nil]; omega
  intro v3 w3 hO3
  have HO3 := Lib.hid hO3
  clear hO3
  go_wp2_with fail
  go_ret
  exact ⟨v3, rfl, by have := HO3.out; simpa using this⟩

theorem line_nil (wb w : World) (v : Value) (l : List UInt8) (m : UInt8) (s : List UInt8) (hO : Buf wb w v l) (hl : l.length + s.length + 3 ≤ 100000000000) :
    Calls Tryz.prog 66 #[v, .int .u8 m.toNat, .string ⟨s.toArray⟩] w (Added wb (l ++ m :: (s ++ [13, 10]))) := by
  have h := appendLine_calls wb w v l m ⟨s.toArray⟩ hO (by rw [size_of]; exact hl)
  rw [bytes_of] at h
  exact h
set_option maxHeartbeats 1000000 in
set_option maxRecDepth 100000 in
theorem appendNull_calls (wb w : World) (v : Value) (l : List UInt8) (old : Bool) (hO : Buf wb w v l) (hc : WCtx wb) (hl : l.length + 25 ≤ 100000000000) :
    Calls Tryz.prog 69 #[v, .bool old] w (Added wb (l ++ (if old then [36, 45, 49, 13, 10] else [95, 13, 10]))) := by
  have m4 := (hc.below hO.bel).marks 4 (by omega)
  have m6 := (hc.below hO.bel).marks 6 (by omega)
  have e4 : (((marksL.getD 4 0).toNat : Nat) : Int) = 36 := rfl
  have e6 : (((marksL.getD 6 0).toNat : Nat) : Int) = 95 := rfl
  rw [e4] at m4
  rw [e6] at m6
  have h4 : Calls Tryz.prog 66 #[v, .int .u8 36, .string ⟨#[45, 49]⟩] w (Added wb (l ++ [36, 45, 49, 13, 10])) := line_nil wb w v l 36 [45, 49] hO (by simp; omega)
  have h6 : Calls Tryz.prog 66 #[v, .int .u8 95, .string ⟨#[]⟩] w (Added wb (l ++ [95, 13, 10])) := line_nil wb w v l 95 [] hO (by simp; omega)
  have H4 := Lib.hid h4
  have H6 := Lib.hid h6
  clear h4 h6 e4 e6 hO hc
  cases old with
  | true =>
    go_enter Tryz.func69, Tryz.ntmps69
    go_wp2_with fail
    refine H4.out.mono ?_; rintro en w1 ⟨v1, rfl, hO1⟩
    have HO1 := Lib.hid hO1
    clear hO1
    go_wp2_with fail
    go_ret
    exact ⟨v1, rfl, HO1.out⟩
  | false =>
    go_enter Tryz.func69, Tryz.ntmps69
    go_wp2_with fail
    refine H6.out.mono ?_; rintro en w1 ⟨v1, rfl, hO1⟩
    have HO1 := Lib.hid hO1
    clear hO1
    go_wp2_with fail
    go_ret
    exact ⟨v1, rfl, HO1.out⟩
end Go.Proofs.YtpmlhmdmnbmnnaaGreatDoor
