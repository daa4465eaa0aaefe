/- Package wire's Command at any texts that lie: its bytes. Conditions: what start-up lays ('PCtx', the table of marks); bounds. -/
import Derived.Test.YtenhgjpoigkdgaaGreatDoorLq2
import Derived.Test.YtenhgjpoigkdgaaGreatDoorLo2
import Derived.Lib.ItoaLen
namespace Go.Proofs.YtenhgjpoigkdgaaGreatDoor.Ln
open Go.ChangeShapes Go.WideShapes Go.ChangeAt Go.RowKit

def marksL : List UInt8 := [0, 43, 45, 58, 36, 42, 95, 44, 35, 40, 33, 61, 37, 126, 62]
/-- The table of marks, as start-up lays it. -/
def Marks (w : World) : Prop := ∀ i, i < 15 → w.cell? ⟨0, i, none⟩ = some (.int .u8 ((marksL.getD i 0).toNat : Int))
theorem Marks.below {w w' : World} (h : Marks w) (hb : Below w.heap.size w w') : Marks w' := fun i hi => by
  have h0 := h i hi
  exact (hb.cell (p := ⟨0, i, none⟩) (World.block_lt_of_cell? w _ h0)).trans h0
theorem itoa_len (n : Int) (h0 : -9223372036854775808 ≤ n) (h1 : n ≤ 9223372036854775807) : (Lib.itoa n).length ≤ 21 := Lib.itoa_length_le n (by omega) (by omega)
/-- What a call that appends leaves. -/
def Added (wb : World) (l : List UInt8) (e : Ending) (w' : World) : Prop := ∃ v', e = .returned v' ∧ BufB wb w' v' l
set_option maxHeartbeats 1000000 in
set_option maxRecDepth 100000 in
theorem appendLine_calls (wb w : World) (v : Value) (l : List UInt8) (m : UInt8) (t : ByteArray) (hO : BufB wb w v l) (hl : l.length + t.size + 3 ≤ 100000000000) :
    Calls Tryz.prog 45 #[v, .int .u8 m.toNat, .string t] w (Added wb (l ++ m :: (t.data.toList ++ [13, 10]))) := by
  have Hlt : Hid (t.data.toList.length = t.size) := Lib.hid Array.length_toList
  go_enter Tryz.func45, Tryz.ntmps45
  go_wp2_with (at_builtin; refine buf_push hO rfl _ _ rfl rfl [m] _ _ _ _ rfl rfl rfl ?hl1 ?_)
  case hl1 => rw [List.length_singleton]; omega
  intro v1 w1 hO1
  go_wp2_with (at_builtin; refine buf_pushS hO1 rfl _ _ rfl rfl t rfl ?hl1 ?_)
  case hl1 => rw [List.length_append, List.length_singleton]; omega
  intro v2 w2 hO2
  go_wp2_with (at_builtin; refine buf_push hO2 rfl _ _ rfl rfl [13, 10] _ _ _ _ rfl rfl rfl ?hl1 ?_)
  case hl1 => have := Hlt.out; simp only [List.length_append, List.length_cons, List.length_nil]; omega
  intro v3 w3 hO3
  go_wp2_with fail
  go_ret
  exact ⟨v3, rfl, hO3⟩
theorem PCtx.ctx1 {w : World} (h : PCtx w) : Ctx w := ⟨h.tab, h.syn, h.rng⟩
set_option maxHeartbeats 1000000 in
set_option maxRecDepth 100000 in
theorem appendCount_calls (wb w : World) (v : Value) (l : List UInt8) (m : UInt8) (n : Nat) (hO : BufB wb w v l) (hc : PCtx wb) (hn : n ≤ 4000000000000) (hl : l.length + 24 ≤ 100000000000) :
    Calls Tryz.prog 27 #[v, .int .u8 m.toNat, .int .i64 n] w (Added wb (l ++ m :: (Lib.itoa n ++ [13, 10]))) := by
  have Hc := Lib.hid (hc.below hO.bel)
  have H1 := Lib.hid fun w2 (h2 : Below w.heap.size w w2) => Text_calls (n : Int) (by omega) (by omega) w2 (Hc.out.below h2).ctx1
  have hlen := itoa_len (n : Int) (by omega) (by omega)
  have hcall := fun w2 (h2 : Below w.heap.size w w2) => appendLine_calls wb w2 v l m ⟨(Lib.itoa n).toArray⟩ (hO.below h2) (by rw [size_of]; omega)
  rw [bytes_of] at hcall
  have Hcall := Lib.hid hcall
  clear hcall hO hc hlen
  go_enter Tryz.func27, Tryz.ntmps27
  go_wp2_with fail
  refine (H1.out _ (Below.refl _ _)).mono ?_; rintro en w1 ⟨rfl, hb1⟩
  have Hb1 := Lib.hid hb1
  clear hb1
  go_wp2_with fail
  refine (Hcall.out _ Hb1.out).mono ?_; rintro en w2 ⟨v2, rfl, hO2⟩
  have HO2 := Lib.hid hO2
  clear hO2
  go_wp2_with fail
  go_ret
  exact ⟨v2, rfl, HO2.out⟩
def bulkL (t : List UInt8) : List UInt8 := 36 :: (Lib.itoa t.length ++ [13, 10]) ++ (t ++ [13, 10])
def cmdL (ws : List (List UInt8)) : List UInt8 := 42 :: (Lib.itoa ws.length ++ [13, 10]) ++ ws.flatMap bulkL
set_option maxHeartbeats 1000000 in
set_option maxRecDepth 100000 in
theorem appendText_calls (wb w : World) (v : Value) (l : List UInt8) (m : UInt8) (t : ByteArray) (hO : BufB wb w v l) (hc : PCtx wb) (ht : t.size ≤ 1000000000) (hl : l.length + t.size + 27 ≤ 100000000000) :
    Calls Tryz.prog 28 #[v, .int .u8 m.toNat, .string t] w (Added wb (l ++ (m :: (Lib.itoa t.size ++ [13, 10])) ++ (t.data.toList ++ [13, 10]))) := by
  have hlen := itoa_len (t.size : Int) (by omega) (by omega)
  have Hcall := Lib.hid (appendCount_calls wb w v l m t.size hO hc (by omega) (by omega))
  have Hlt : Hid (t.data.toList.length = t.size) := Lib.hid Array.length_toList
  clear hO hc
  go_enter Tryz.func28, Tryz.ntmps28
  go_wp2_with fail
  refine Hcall.out.mono ?_; rintro en w1 ⟨v1, rfl, hO1⟩
  have HO1 := Lib.hid hO1
  clear hO1
  go_wp2_with (at_builtin; refine buf_pushS HO1.out rfl _ _ rfl rfl t rfl ?hl1 ?_)
  case hl1 => simp only [List.length_append, List.length_cons, List.length_nil]; omega
  intro v2 w2 hO2
  have HO2 := Lib.hid hO2
  clear hO2
  go_wp2_with (at_builtin; refine buf_push HO2.out rfl _ _ rfl rfl [13, 10] _ _ _ _ rfl rfl rfl ?hl1 ?_)
  case hl1 => have := Hlt.out; simp only [List.length_append, List.length_cons, List.length_nil]; omega
  intro v3 w3 hO3
  have HO3 := Lib.hid hO3
  clear hO3
  go_wp2_with fail
  go_ret
  exact ⟨v3, rfl, by have := HO3.out; simpa using this⟩
/-- The texts l lie at a, wherever in a block. -/
def InSo (w : World) (a : Option Addr) (l : List (List UInt8)) : Prop := 0 < l.length → ∃ g o, a = some ⟨g, o, none⟩ ∧ ∀ i (hi : i < l.length), w.cell? ⟨g, o + i, none⟩ = some (.string ⟨l[i].toArray⟩)
theorem InSo.below {w w' : World} {a : Option Addr} {l : List (List UInt8)} (h : InSo w a l) (hb : Below w.heap.size w w') : InSo w' a l := fun hl => by
  obtain ⟨g, o, e, hc⟩ := h hl
  refine ⟨g, o, e, fun i hi => ?_⟩
  have h0 := hc i hi
  exact (hb.cell (p := ⟨g, o + i, none⟩) (World.block_lt_of_cell? w _ h0)).trans h0
theorem bulkL_len (t : List UInt8) (h : t.length ≤ 4096) : (bulkL t).length ≤ 4122 := by
  have h1 := itoa_len (t.length : Int) (by omega) (by omega)
  unfold bulkL
  simp only [List.length_append, List.length_cons, List.length_nil]
  omega
theorem bulks_len (ws : List (List UInt8)) (h : ∀ t ∈ ws, t.length ≤ 4096) : (ws.flatMap bulkL).length ≤ 4122 * ws.length := by
  induction ws with
  | nil => exact Nat.le_refl _
  | cons t ws ih =>
    have h1 := ih fun t ht => h t (List.mem_cons_of_mem _ ht)
    have h2 := bulkL_len t (h t (List.mem_cons_self ..))
    rw [List.flatMap_cons, List.length_append, List.length_cons]
    omega
theorem cmdL_len (ws : List (List UInt8)) (hl : ws.length ≤ 64) (h : ∀ t ∈ ws, t.length ≤ 4096) : (cmdL ws).length ≤ 263832 ∧ 0 < (cmdL ws).length := by
  have h1 := bulks_len ws h
  have h2 := itoa_len (ws.length : Int) (by omega) (by omega)
  unfold cmdL
  simp only [List.length_append, List.length_cons, List.length_nil]
  omega
set_option maxHeartbeats 4000000 in
set_option maxRecDepth 100000 in
theorem command_calls (w : World) (hc : PCtx w) (hk : Marks w) (a : Option Addr) (c : Nat) (ws : List (List UInt8)) (hn : ws.length ≤ 64) (hw : ∀ t ∈ ws, t.length ≤ 4096) (hnc : ws.length ≤ c) (hcm : c ≤ 9223372036854775807) (hI : InSo w a ws) :
    Calls Tryz.prog 17 #[.slice a ws.length c] w (Added w (cmdL ws)) := by
  have HC := Lib.hid hc
  have HK := Lib.hid hk
  have HW := Lib.hid hw
  have HI := Lib.hid hI
  have m5 : w.cell? ⟨0, 5, none⟩ = some (.int .u8 42) := hk 5 (by decide)
  have hlen := itoa_len (ws.length : Int) (by omega) (by omega)
  have Hlen := Lib.hid hlen
  have H0 : Hid (∀ w2, BufB w w2 (.slice none 0 0) [] → Calls Tryz.prog 27 #[.slice none 0 0, .int .u8 42, .int .i64 ws.length] w2 (Added w ([] ++ 42 :: (Lib.itoa ws.length ++ [13, 10])))) := Lib.hid (fun w2 h2 => appendCount_calls w w2 (.slice none 0 0) [] 42 ws.length h2 hc (by omega) (by simp))
  clear hc hk hw hI hlen
  go_enter Tryz.func17, Tryz.ntmps17
  go_wp2_with fail
  refine (H0.out w (Row.nil w)).mono ?_; rintro en w1 ⟨v1, rfl, hO1⟩
  rw [List.nil_append] at hO1
  have HO1 := Lib.hid hO1
  clear hO1 H0
  go_wp2_with fail
  go_loopw [3, 5, 13] (fun v _ i wr => ∃ j : Nat, j ≤ ws.length ∧ i = .int .i64 j ∧ BufB w wr v ((42 :: (Lib.itoa ws.length ++ [13, 10])) ++ (ws.take j).flatMap bulkL)) (fun _ _ i _ => ws.length - (intOf i).toNat)
  case atStart => exact ⟨0, by omega, rfl, by rw [List.take_zero, List.flatMap_nil, List.append_nil]; exact HO1.out⟩
  case round =>
    obtain ⟨j, hj, rfl, hB⟩ := hrel
    have HB := Lib.hid hB
    clear hB
    by_cases hlt : j < ws.length
    · obtain ⟨b2, o2, rfl, hcell⟩ := HI.out (by omega)
      have hjn : j < c := by omega
      have hx : wr.cell? ⟨b2, o2 + j, none⟩ = some (.string ⟨ws[j].toArray⟩) := (HB.out.bel.cell (p := ⟨b2, o2 + j, none⟩) (World.block_lt_of_cell? w _ (hcell j hlt))).trans (hcell j hlt)
      have m4 : wr.cell? ⟨0, 4, none⟩ = some (.int .u8 36) := (HK.out.below HB.out.bel) 4 (by decide)
      have htj := HW.out ws[j] (List.getElem_mem _)
      have hlj := bulks_len (ws.take j) (fun t ht => HW.out t (List.mem_of_mem_take ht))
      rw [List.length_take] at hlj
      have hl21 := Hlen.out
      have hsj := size_of ws[j]
      have hdj := bytes_of ws[j]
      have HE : Hid ((ws.take (j + 1)).flatMap bulkL = (ws.take j).flatMap bulkL ++ bulkL ws[j]) := Lib.hid (by rw [← List.take_append_getElem hlt, List.flatMap_append]; simp)
      generalize (⟨ws[j].toArray⟩ : ByteArray) = S at *
      generalize ws[j] = t at *
      have hcall : ∀ v, BufB w wr v ((42 :: (Lib.itoa ws.length ++ [13, 10])) ++ (ws.take j).flatMap bulkL) → Calls Tryz.prog 28 #[v, .int .u8 36, .string S] wr (Added w ((42 :: (Lib.itoa ws.length ++ [13, 10])) ++ (ws.take j).flatMap bulkL ++ bulkL t)) := fun v hv => by
        have h := appendText_calls w wr v ((42 :: (Lib.itoa ws.length ++ [13, 10])) ++ (ws.take j).flatMap bulkL) 36 S hv HC.out (by omega) (by simp only [List.length_append, List.length_cons, List.length_nil]; omega)
        rw [hsj, hdj] at h
        rw [List.append_assoc _ (36 :: _) _] at h
        exact h
      have Hcall := Lib.hid hcall
      clear hcall hlj hl21 hcell hdj
      go_wp2_with fail
      refine (Hcall.out _ HB.out).mono ?_
      rintro en w3 ⟨v3, rfl, hO3⟩
      have HO3 := Lib.hid hO3
      clear hO3
      go_wp2_with fail
      go_roundw
      case rel =>
        refine ⟨j + 1, by omega, by go_num, ?_⟩
        rw [HE.out, ← List.append_assoc]
        exact HO3.out
      case measure => simp [intOf]; omega
    · obtain rfl : j = ws.length := by omega
      have HB2 : Hid (BufB w wr _ (cmdL ws)) := Lib.hid (by have h := HB.out; rw [List.take_length] at h; exact h)
      go_wp2_with fail
      go_ret
      exact ⟨_, rfl, HB2.out⟩
end Go.Proofs.YtenhgjpoigkdgaaGreatDoor.Ln
