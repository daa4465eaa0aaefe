/- Package whole's Text; package wire's appendCount, appendText, appendNull, flagText; what a value is as bytes. Conditions: the tables hold what start-up lays ('WCtx'). -/
import Derived.Test.YtlebpaneignfaaaDoorWa1
import Derived.Test.YtlebpaneignfaaaDoorVb1
namespace Go.Proofs.YtlebpaneignfaaaDoor
open Go.ChangeShapes Go.WideShapes Go.ChangeAt Go.RowKit

def marksL : List UInt8 := [0, 43, 45, 58, 36, 42, 95, 44, 35, 40, 33, 61, 37, 126, 62]
/-- What start-up lays, as far as the walks of package wire read it. -/
structure WCtx (w : World) : Prop extends TCtx w where
  marks : ∀ i, i < 15 → w.cell? ⟨0, i, none⟩ = some (.int .u8 ((marksL.getD i 0).toNat : Int))
theorem WCtx.below {w w' : World} (h : WCtx w) (hb : Below w.heap.size w w') : WCtx w' := ⟨h.toTCtx.below hb, fun i hi => cell_below hb (h.marks i hi)⟩

open Go.Sort in
theorem format10 (n : Int) (h0 : -9223372036854775808 ≤ n) (h1 : n ≤ 9223372036854775807) (w : World) (htab : Lib.TabIs Tryd.prog w "internal/strconv.uint64pow10" .u64 Lib.pow10Tab) :
    Calls Tryd.prog 22 #[.int .i64 n, .int .i64 10] w fun e w' => e = .returned (.string ⟨(Lib.itoa n).toArray⟩) ∧ ∃ k os, w' = grow (w.drewN k) os := Any.strconv_FormatInt_10 Tryd.laysM173 n h0 h1 w htab
theorem below_grow (w : World) (k : Nat) (os : Array Obj) : Below w.heap.size w (Go.Sort.grow (w.drewN k) os) :=
  ⟨rfl, rfl, rfl, by simp [Go.Sort.grow, World.drewN], fun i hi => by
    show (w.heap ++ os)[i]? = w.heap[i]?
    exact Array.getElem?_append_left hi⟩
theorem whText_calls (n : Int) (h0 : -9223372036854775808 ≤ n) (h1 : n ≤ 9223372036854775807) (w : World) (hc : TCtx w) :
    Calls Tryd.prog 13 #[.int .i64 n] w fun e w' => e = .returned (.string ⟨(Lib.itoa n).toArray⟩) ∧ Below w.heap.size w w' := by
  have H := Lib.hid hc; clear hc
  go_enter Tryd.func13, Tryd.ntmps13
  go_wp2_with (go_at_call 22; refine (format10 n h0 h1 _ H.out.tab).mono ?_; rintro e w' ⟨rfl, k, os, rfl⟩)
  go_ret
  exact ⟨rfl, below_grow _ _ _⟩
theorem flagText_calls (f : Bool) (w : World) : Calls Tryd.prog 15 #[.bool f] w fun e w' => e = .returned (.string ⟨(if f then [116] else [102] : List UInt8).toArray⟩) ∧ w = w' := by
  cases f <;> (go_enter Tryd.func15, Tryd.ntmps15; go_wp2; go_ret; exact ⟨rfl, rfl⟩)

theorem bytes_of (l : List UInt8) : (⟨l.toArray⟩ : ByteArray).data.toList = l := by simp
theorem size_of (l : List UInt8) : (⟨l.toArray⟩ : ByteArray).size = l.length := by simp [ByteArray.size]
theorem itoa_len (n : Int) (h0 : -9223372036854775808 ≤ n) (h1 : n ≤ 9223372036854775807) : (Lib.itoa n).length ≤ 21 := Lib.itoa_length_le n (by omega) (by omega)

set_option maxHeartbeats 1000000 in
set_option maxRecDepth 100000 in
theorem appendCount_calls (wb w : World) (v : Value) (l : List UInt8) (m : UInt8) (n : Nat) (hO : Buf wb w v l) (hc : WCtx wb) (hn : n ≤ 4000000000000) (hl : l.length + 24 ≤ 100000000000) :
    Calls Tryd.prog 10 #[v, .int .u8 m.toNat, .int .i64 n] w (Added wb (l ++ m :: (Lib.itoa n ++ [13, 10]))) := by
  have Hc := Lib.hid (hc.below hO.bel)
  have H1 := Lib.hid fun w2 (h2 : Below w.heap.size w w2) => whText_calls (n : Int) (by omega) (by omega) w2 (Hc.out.toTCtx.below h2)
  have hlen := itoa_len (n : Int) (by omega) (by omega)
  have hcall := fun w2 (h2 : Below w.heap.size w w2) => appendLine_calls wb w2 v l m ⟨(Lib.itoa n).toArray⟩ (hO.below h2) (by rw [size_of]; omega)
  rw [bytes_of] at hcall
  have Hcall := Lib.hid hcall
  clear hcall hO hc hlen
  go_enter Tryd.func10, Tryd.ntmps10
  go_wp2_with fail
  refine (H1.out _ (Below.refl _ _)).mono ?_; rintro en w1 ⟨rfl, hb1⟩
  have Hb1 := Lib.hid hb1
  clear hb1
  go_wp2_with fail
  refine (Hcall.out _ Hb1.out).mono ?_; rintro en w2 ⟨v2, rfl, hO2⟩
  have HO2 := Lib.hid hO2
  clear hO2
  go_wp2_with fail
  go_ret
  exact ⟨v2, rfl, HO2.out⟩

set_option maxHeartbeats 1000000 in
set_option maxRecDepth 100000 in
theorem appendText_calls (wb w : World) (v : Value) (l : List UInt8) (m : UInt8) (t : ByteArray) (hO : Buf wb w v l) (hc : WCtx wb) (ht : t.size ≤ 1000000000) (hl : l.length + t.size + 27 ≤ 100000000000) :
    Calls Tryd.prog 11 #[v, .int .u8 m.toNat, .string t] w (Added wb (l ++ (m :: (Lib.itoa t.size ++ [13, 10])) ++ (t.data.toList ++ [13, 10]))) := by
  have hlen := itoa_len (t.size : Int) (by omega) (by omega)
  have Hcall := Lib.hid (appendCount_calls wb w v l m t.size hO hc (by omega) (by omega))
  have Hlt : Hid (t.data.toList.length = t.size) := Lib.hid Array.length_toList
  clear hO hc
  go_enter Tryd.func11, Tryd.ntmps11
  go_wp2_with fail
  refine Hcall.out.mono ?_; rintro en w1 ⟨v1, rfl, hO1⟩
  have HO1 := Lib.hid hO1
  clear hO1
  go_wp2_with (at_builtin; refine buf_text HO1.out rfl _ _ rfl rfl t rfl ?hl1 ?_)
  case hl1 => simp only [List.length_append, List.length_cons, List.length_nil]; omega
  intro v2 w2 hO2
  have HO2 := Lib.hid hO2
  clear hO2
  go_wp2_with (at_builtin; refine buf_push HO2.out rfl _ _ rfl rfl [13, 10] _ _ _ _ rfl rfl rfl ?hl1 ?_)
  case hl1 => have := Hlt.out; simp only [List.length_append, List.length_cons, List.length_nil]; omega
  intro v3 w3 hO3
  have HO3 := Lib.hid hO3
  clear hO3
  go_wp2_with fail
  go_ret
  exact ⟨v3, rfl, by have := HO3.out; simpa using this⟩

theorem line_nil (wb w : World) (v : Value) (l : List UInt8) (m : UInt8) (s : List UInt8) (hO : Buf wb w v l) (hl : l.length + s.length + 3 ≤ 100000000000) :
    Calls Tryd.prog 12 #[v, .int .u8 m.toNat, .string ⟨s.toArray⟩] w (Added wb (l ++ m :: (s ++ [13, 10]))) := by
  have h := appendLine_calls wb w v l m ⟨s.toArray⟩ hO (by rw [size_of]; exact hl)
  rw [bytes_of] at h
  exact h
set_option maxHeartbeats 1000000 in
set_option maxRecDepth 100000 in
theorem appendNull_calls (wb w : World) (v : Value) (l : List UInt8) (old : Bool) (hO : Buf wb w v l) (hc : WCtx wb) (hl : l.length + 25 ≤ 100000000000) :
    Calls Tryd.prog 16 #[v, .bool old] w (Added wb (l ++ (if old then [36, 45, 49, 13, 10] else [95, 13, 10]))) := by
  have m4 := (hc.below hO.bel).marks 4 (by omega)
  have m6 := (hc.below hO.bel).marks 6 (by omega)
  have e4 : (((marksL.getD 4 0).toNat : Nat) : Int) = 36 := rfl
  have e6 : (((marksL.getD 6 0).toNat : Nat) : Int) = 95 := rfl
  rw [e4] at m4
  rw [e6] at m6
  have h4 : Calls Tryd.prog 12 #[v, .int .u8 36, .string ⟨#[45, 49]⟩] w (Added wb (l ++ [36, 45, 49, 13, 10])) := line_nil wb w v l 36 [45, 49] hO (by simp; omega)
  have h6 : Calls Tryd.prog 12 #[v, .int .u8 95, .string ⟨#[]⟩] w (Added wb (l ++ [95, 13, 10])) := line_nil wb w v l 95 [] hO (by simp; omega)
  have H4 := Lib.hid h4
  have H6 := Lib.hid h6
  clear h4 h6 e4 e6 hO hc
  cases old with
  | true =>
    go_enter Tryd.func16, Tryd.ntmps16
    go_wp2_with fail
    refine H4.out.mono ?_; rintro en w1 ⟨v1, rfl, hO1⟩
    have HO1 := Lib.hid hO1
    clear hO1
    go_wp2_with fail
    go_ret
    exact ⟨v1, rfl, HO1.out⟩
  | false =>
    go_enter Tryd.func16, Tryd.ntmps16
    go_wp2_with fail
    refine H6.out.mono ?_; rintro en w1 ⟨v1, rfl, hO1⟩
    have HO1 := Lib.hid hO1
    clear hO1
    go_wp2_with fail
    go_ret
    exact ⟨v1, rfl, HO1.out⟩
end Go.Proofs.YtlebpaneignfaaaDoor
