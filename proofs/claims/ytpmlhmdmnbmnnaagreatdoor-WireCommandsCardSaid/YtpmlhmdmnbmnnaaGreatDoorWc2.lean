/- The document's Bytes of layer 4 at an Array of Bulks. No condition but bounds. -/
import Derived.Test.YtpmlhmdmnbmnnaaGreatDoorWc1
import Derived.Test.YtpmlhmdmnbmnnaaGreatDoorRt
namespace Go.Proofs.YtpmlhmdmnbmnnaaGreatDoor
open Go.ChangeShapes Go.WideShapes Go.ChangeAt Go.RowKit

theorem wcount_calls (n : Nat) (hn : n ≤ 4000000000000) (w : World) : Calls Tryz.prog 51 #[.int .i64 n] w fun e w' => e = .returned (.string ⟨(Lib.itoa n ++ [13, 10]).toArray⟩) ∧ w = w' := by
  have H := Lib.hid (Rt.refText_calls (n : Int) (by omega) (by omega))
  have hl := itoa_len (n : Int) (by omega) (by omega)
  go_enter Tryz.func51, Tryz.ntmps51
  go_wp2_with fail
  refine (H.out _).mono ?_; rintro en w1 ⟨rfl, rfl⟩
  go_wp2_with fail
  go_ret
  exact ⟨by first | rfl | simp, rfl⟩
theorem text_ext {x y : ByteArray} (h : x.data.toList = y.data.toList) : x = y := by
  cases x with | mk x => cases y with | mk y => exact congrArg ByteArray.mk (Array.toList_inj.1 h)
set_option maxHeartbeats 4000000 in
set_option maxRecDepth 100000 in
theorem rbytes_bulk (t : ByteArray) (ht : t.size ≤ 1000) (a : Option Addr) (c : Nat) (w : World) :
    Calls Tryz.prog 24 #[.agg #[.int .i64 4, .string t, .int .i64 0, .float .f64 0, .bool false, .slice a 0 c], .int .i64 3] w fun e w' => e = .returned (.string ⟨(bulkB t).toArray⟩) ∧ Below w.heap.size w w' := by
  have HC := Lib.hid (wcount_calls t.size (by omega))
  have hl := itoa_len (t.size : Int) (by omega) (by omega)
  have hbox := fun (o : Obj) => ((Below.refl w.heap.size w).alloc (Nat.le_refl _) o)
  have Hbox := Lib.hid hbox
  clear hbox
  go_enter Tryz.func24, Tryz.ntmps24
  go_wp2_with fail
  generalize hW : w.alloc _ = W at *
  go_loopw [5, 7, 19] (fun s _ i wr => s = .string ⟨#[]⟩ ∧ i = .int .i64 0 ∧ wr = W) (fun _ _ _ _ => 0)
  case atStart => exact ⟨rfl, rfl, rfl⟩
  case round =>
    obtain ⟨rfl, rfl, rfl⟩ := hrel
    subst hW
    go_wp2_with fail
    generalize hW : w.alloc _ = W at *
    have HBW : Hid (Below w.heap.size w W) := Lib.hid (by rw [← hW]; exact Hbox.out _)
    have Hx : Hid (W.cell? ⟨w.heap.size, 1, none⟩ = some (.string t) ∧ w.heap.size < W.heap.size) := Lib.hid (by subst hW; exact ⟨by go_simp, by simp⟩)
    clear hW
    obtain ⟨F, F1, F2, F3, -⟩ := over W
    have xx1 : ∀ u, (F u).cell? ⟨w.heap.size, 1, none⟩ = some (.string t) := fun u => ((F1 u).cell (p := ⟨w.heap.size, 1, none⟩) Hx.out.2).trans Hx.out.1
    have HF1 := Lib.hid F1
    clear F1 F3
    refine wp_region_class F (by kernel_rfl) (by kernel_rfl) F2 ?_
    try dsimp only [List.append]
    repeat (go_big_quiet_step ((go_at_call 51; with_reducible exact quiet_same (HC.out _))))
    refine wpQuiet_nil ?_
    intro _ hw'
    obtain ⟨u1, hw2⟩ := hw'
    subst hw2
    go_wp2_with fail
    go_ret
    refine ⟨?_, bstep HBW.out (HF1.out u1)⟩
    unfold bulkB
    exact congrArg (fun x => Ending.returned (Value.string x)) (text_ext (by simp [ByteArray.data_append]))
set_option maxHeartbeats 4000000 in
set_option maxRecDepth 100000 in
theorem rbytes_array (a : Option Addr) (c n : Nat) (T : Nat → ByteArray) (w : World) (hnc : n ≤ c) (hcm : c ≤ 9223372036854775807) (hn : n ≤ 1000) (hT : ∀ i, i < n → (T i).size ≤ 1000)
    (hadr : 0 < n → ∃ b o, a = some ⟨b, o, none⟩ ∧ b < w.heap.size) (hk : ∀ i, i < n → ∀ b o, a = some ⟨b, o, none⟩ → At w b (o + i * 6) (vText (T i))) :
    Calls Tryz.prog 24 #[.agg #[.int .i64 5, .string ⟨#[]⟩, .int .i64 0, .float .f64 0, .bool false, .slice a n c], .int .i64 3] w fun e w' => e = .returned (.string ⟨(commandB T n).toArray⟩) ∧ Below w.heap.size w w' := by
  have HC := Lib.hid (wcount_calls n (by omega))
  have HT := Lib.hid hT
  have Hadr := Lib.hid hadr
  have Hk := Lib.hid hk
  have hlen := itoa_len (n : Int) (by omega) (by omega)
  have hbl := bulks_len T n hT
  have Hlens := Lib.hid (And.intro hlen hbl)
  have HW : Hid (Below w.heap.size w (w.alloc (.cells #[.int .i64 5, .string ⟨#[]⟩, .int .i64 0, .float .f64 0, .bool false, .slice a n c] 36))) := Lib.hid ((Below.refl _ _).alloc (Nat.le_refl _) _)
  have Hx : Hid (At (w.alloc (.cells #[.int .i64 5, .string ⟨#[]⟩, .int .i64 0, .float .f64 0, .bool false, .slice a n c] 36)) w.heap.size 0 (.mk 5 ⟨#[]⟩ 0 0 false a c n fun i => vText (T i)) ∧ w.heap.size < (w.alloc (.cells #[.int .i64 5, .string ⟨#[]⟩, .int .i64 0, .float .f64 0, .bool false, .slice a n c] 36)).heap.size) := Lib.hid ⟨⟨by go_simp, by go_simp, by go_simp, by go_simp, by go_simp, by go_simp⟩, by simp⟩
  clear hT hadr hk hlen hbl
  go_enter Tryz.func24, Tryz.ntmps24
  go_wp2_with fail
  generalize hW : w.alloc _ = W at *
  clear hW
  go_loopw [5, 7, 19] (fun s _ i wr => ∃ j : Nat, j ≤ n ∧ s = .string ⟨(catTo (fun i => bulkB (T i)) j).toArray⟩ ∧ i = .int .i64 j ∧ Below W.heap.size W wr) (fun _ _ i _ => n - (intOf i).toNat)
  case atStart => exact ⟨0, by omega, rfl, rfl, Below.refl _ _⟩
  case round =>
    obtain ⟨j, hj, rfl, rfl, hb⟩ := hrel
    have HB := Lib.hid (bstep HW.out hb)
    have HBW := Lib.hid hb
    clear hb
    by_cases hlt : j < n
    · obtain ⟨b2, o2, rfl, hb2⟩ := Hadr.out (by omega)
      have hjn : j < c := by omega
      obtain ⟨x0, x1, x2, x3, x4, x5⟩ := (Hk.out j hlt b2 o2 rfl).below HB.out hb2
      have h1 := bulks_len T j fun i hi => HT.out i (by omega)
      have h2 := bulkB_len (T j) (HT.out j hlt)
      have Hcall := Lib.hid (rbytes_bulk (T j) (HT.out j hlt) none 0)
      generalize hs : catTo (fun i => bulkB (T i)) j = sj at *
      generalize hq : bulkB (T j) = q at *
      have Hs := Lib.hid hs
      have Hq := Lib.hid hq
      clear hs hq
      go_wp2_with fail
      refine (Hcall.out _).mono ?_; rintro en w3 ⟨rfl, hb3⟩
      have HB3 := Lib.hid (bstep HBW.out (bstep ((Below.refl _ _).alloc (Nat.le_refl _) _) hb3))
      clear hb3
      go_wp2_with fail
      go_roundw
      case rel =>
        refine ⟨j + 1, by omega, ?_, by go_num, HB3.out⟩
        rw [catTo_succ, Hs.out, Hq.out]
        first | rfl | simp
      case measure => simp [intOf]; omega
    · obtain rfl : j = n := by omega
      obtain ⟨x0, x1, x2, x3, x4, x5⟩ : wr.cell? ⟨w.heap.size, 0, none⟩ = some (.int .i64 5) ∧ wr.cell? ⟨w.heap.size, 1, none⟩ = some (.string ⟨#[]⟩) ∧ wr.cell? ⟨w.heap.size, 2, none⟩ = some (.int .i64 0) ∧ wr.cell? ⟨w.heap.size, 3, none⟩ = some (.float .f64 0) ∧ wr.cell? ⟨w.heap.size, 4, none⟩ = some (.bool false) ∧ wr.cell? ⟨w.heap.size, 5, none⟩ = some (.slice a j c) := Hx.out.1.below HBW.out Hx.out.2
      have h1 := Hlens.out.1
      have h2 := Hlens.out.2
      generalize hs : catTo (fun i => bulkB (T i)) j = sj at *
      have Hs := Lib.hid hs
      clear hs
      go_wp2_with fail
      refine (HC.out _).mono ?_; rintro en w1 ⟨rfl, rfl⟩
      go_wp2_with fail
      go_ret
      refine ⟨?_, HB.out⟩
      unfold commandB
      rw [Hs.out]
      first | rfl | simp
end Go.Proofs.YtpmlhmdmnbmnnaaGreatDoor
