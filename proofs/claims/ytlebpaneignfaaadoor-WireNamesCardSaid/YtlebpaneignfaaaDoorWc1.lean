/- wire.Command: its bytes, at any texts that lie. No condition but bounds. -/
import Derived.Test.YtlebpaneignfaaaDoorWa3
namespace Go.Proofs.YtlebpaneignfaaaDoor
open Go.ChangeShapes Go.WideShapes Go.ChangeAt Go.RowKit

def bulkB (t : ByteArray) : List UInt8 := (36 :: (Lib.itoa t.size ++ [13, 10])) ++ (t.data.toList ++ [13, 10])
def commandB (T : Nat → ByteArray) (n : Nat) : List UInt8 := (42 :: (Lib.itoa n ++ [13, 10])) ++ catTo (fun i => bulkB (T i)) n
theorem bulkB_len (t : ByteArray) (h : t.size ≤ 1000) : (bulkB t).length ≤ 1026 := by
  have h1 := itoa_len (t.size : Int) (by omega) (by omega)
  have h2 : t.data.toList.length = t.size := Array.length_toList
  unfold bulkB
  simp only [List.length_append, List.length_cons, List.length_nil]
  omega
theorem bulks_len (T : Nat → ByteArray) (n : Nat) (h : ∀ i, i < n → (T i).size ≤ 1000) : (catTo (fun i => bulkB (T i)) n).length ≤ 1026 * n := by
  induction n with
  | zero => exact Nat.le_refl _
  | succ n ih =>
    have h1 := ih fun i hi => h i (by omega)
    have h2 := bulkB_len (T n) (h n (by omega))
    rw [catTo_succ, List.length_append]
    omega
set_option maxHeartbeats 4000000 in
set_option maxRecDepth 100000 in
theorem command_calls (w : World) (hc : WCtx w) (a : Option Addr) (c n : Nat) (T : Nat → ByteArray) (hnc : n ≤ c) (hcm : c ≤ 9223372036854775807) (hn : n ≤ 1000) (hT : ∀ i, i < n → (T i).size ≤ 1000)
    (hadr : 0 < n → ∃ b o, a = some ⟨b, o, none⟩ ∧ b < w.heap.size) (hcell : ∀ i, i < n → ∀ b o, a = some ⟨b, o, none⟩ → w.cell? ⟨b, o + i, none⟩ = some (.string (T i))) :
    Calls Tryd.prog 6 #[.slice a n c] w (Added w (commandB T n)) := by
  have HC := Lib.hid hc
  have HT := Lib.hid hT
  have Hadr := Lib.hid hadr
  have Hcell := Lib.hid hcell
  have m5 := mark_of w 5 (by decide) 42 rfl hc
  have hlen := itoa_len (n : Int) (by omega) (by omega)
  have Hlen := Lib.hid hlen
  have H0 := Lib.hid (fun w2 (h2 : Buf w w2 (.slice none 0 0) []) => appendCount_calls w w2 (.slice none 0 0) [] 42 n h2 hc (by omega) (by simp))
  clear hc hT hadr hcell hlen
  go_enter Tryd.func6, Tryd.ntmps6
  go_wp2_with fail
  refine (H0.out w (Buf.nil w)).mono ?_; rintro en w1 ⟨v1, rfl, hO1⟩
  rw [List.nil_append] at hO1
  have HO1 := Lib.hid hO1
  clear hO1 H0
  go_wp2_with fail
  go_loopw [3, 5, 13] (fun v _ i wr => ∃ j : Nat, j ≤ n ∧ i = .int .i64 j ∧ Buf w wr v ((42 :: (Lib.itoa n ++ [13, 10])) ++ catTo (fun i => bulkB (T i)) j)) (fun _ _ i _ => n - (intOf i).toNat)
  case atStart => exact ⟨0, by omega, rfl, by rw [show catTo (fun i => bulkB (T i)) 0 = [] from rfl, List.append_nil]; exact HO1.out⟩
  case round =>
    obtain ⟨j, hj, rfl, hB⟩ := hrel
    have HB := Lib.hid hB
    clear hB
    by_cases hlt : j < n
    · obtain ⟨b2, o2, rfl, hb2⟩ := Hadr.out (by omega)
      have hjn : j < c := by omega
      have hx : wr.cell? ⟨b2, o2 + j, none⟩ = some (.string (T j)) := (HB.out.bel.cell (p := ⟨b2, o2 + j, none⟩) hb2).trans (Hcell.out j hlt b2 o2 rfl)
      have m4 := mark_of wr 4 (by decide) 36 rfl (HC.out.below HB.out.bel)
      have hlj := bulks_len T j fun i hi => HT.out i (by omega)
      have htj := HT.out j hlt
      have hl21 := Hlen.out
      have hcall := fun v => appendText_calls w wr v ((42 :: (Lib.itoa n ++ [13, 10])) ++ catTo (fun i => bulkB (T i)) j) 36 (T j)
      have Hcall := Lib.hid hcall
      clear hcall
      have Hsz : Hid ((T j).size ≤ 1000000000 ∧ ((42 :: (Lib.itoa n ++ [13, 10])) ++ catTo (fun i => bulkB (T i)) j).length + (T j).size + 27 ≤ 100000000000) := Lib.hid ⟨by omega, by simp only [List.length_append, List.length_cons, List.length_nil]; omega⟩
      clear hlj htj hl21
      go_wp2_with fail
      refine (Hcall.out _ HB.out HC.out Hsz.out.1 Hsz.out.2).mono ?_
      rintro en w3 ⟨v3, rfl, hO3⟩
      have HO3 := Lib.hid hO3
      clear hO3
      go_wp2_with fail
      go_roundw
      case rel =>
        refine ⟨j + 1, by omega, by go_num, ?_⟩
        rw [catTo_succ, ← List.append_assoc]
        have h := HO3.out
        rw [List.append_assoc _ (36 :: _) _] at h
        exact h
      case measure => simp [intOf]; omega
    · obtain rfl : j = n := by omega
      go_wp2_with fail
      go_ret
      refine ⟨_, rfl, ?_⟩
      exact HB.out
end Go.Proofs.YtlebpaneignfaaaDoor
