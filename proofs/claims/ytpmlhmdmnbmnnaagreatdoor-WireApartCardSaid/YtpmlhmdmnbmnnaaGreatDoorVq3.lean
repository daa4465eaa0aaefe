/- The document's own of layer 3: has a value what its kind has, and nothing else? Lines and Bigs. No condition but bounds. (Written by tools/gen_vq1.py.) -/
import Derived.Test.YtpmlhmdmnbmnnaaGreatDoorVq1
namespace Go.Proofs.YtpmlhmdmnbmnnaaGreatDoor
open Go.ChangeShapes Go.WideShapes Go.ChangeAt Go.RowKit


set_option maxHeartbeats 8000000 in
set_option maxRecDepth 100000 in
theorem own_1 (t : ByteArray) (z : Int) (r : Nat) (f : Bool) (a : Option Addr) (c n : Nat) (K : Nat → Val) (w : World) (hr : r < 18446744073709551616) (ht : t.size ≤ 9223372036854775807) (_hn : n ≤ 4000000000000) :
    Calls Tryz.prog 64 #[(Val.mk 1 t z r f a c n K).agg] w (Owned 1 t z r f n w) := by
  have HT : Hid (∀ w : World, Calls Tryz.prog 92 #[.int .i64 1] w fun e w' => e = .returned (.bool true) ∧ w = w') := Lib.hid fun w => rtexts_calls 1 w
  have HL : Hid (∀ w : World, Calls Tryz.prog 65 #[.int .i64 1] w fun e w' => e = .returned (.bool false) ∧ w = w') := Lib.hid fun w => rlists_calls 1 w
  have HB := Lib.hid (refBits_calls r hr)
  have hbox := fun (o : Obj) => ((Below.refl w.heap.size w).alloc (Nat.le_refl _) o)
  have Hbox := Lib.hid hbox
  clear hbox
  unfold Val.agg
  by_cases cz : z = 0
  case neg =>
    have ez : (z != 0) = true := by simpa using cz
    have hf : headB 1 t z r f n = false := head_no fun h => h.1.elim cz (by decide)
    have Hf := Lib.hid hf
    clear hf cz
    go_enter Tryz.func64, Tryz.ntmps64
    go_wp2_with fail
    refine (HT.out _).mono ?_; rintro en w' ⟨rfl, hw'⟩
    subst hw'
    go_wp2_with fail
    go_ret
    exact ⟨by rw [Hf.out]; rfl, Hbox.out _⟩
  subst cz
  by_cases cb : bitsN r = 0
  case neg =>
    have eb : (((bitsN r : Nat) : Int) != 0) = true := by rw [bne_iff_ne]; omega
    have hf : headB 1 t 0 r f n = false := head_no fun h => h.2.1.elim cb (by decide)
    have Hf := Lib.hid hf
    clear hf cb
    go_enter Tryz.func64, Tryz.ntmps64
    go_wp2_with fail
    refine (HT.out _).mono ?_; rintro en w' ⟨rfl, hw'⟩
    subst hw'
    go_wp2_with fail
    refine (HB.out _).mono ?_; rintro en w' ⟨rfl, hw'⟩
    subst hw'
    go_wp2_with fail
    go_ret
    exact ⟨by rw [Hf.out]; rfl, Hbox.out _⟩
  have eb : (((bitsN r : Nat) : Int) != 0) = false := by rw [cb]; rfl
  by_cases cf : f = false
  case neg =>
    have ef : f = true := by simpa using cf
    have hf : headB 1 t 0 r f n = false := head_no fun h => h.2.2.1.elim cf (by decide)
    subst ef
    have Hf := Lib.hid hf
    clear hf cf
    go_enter Tryz.func64, Tryz.ntmps64
    go_wp2_with fail
    refine (HT.out _).mono ?_; rintro en w' ⟨rfl, hw'⟩
    subst hw'
    go_wp2_with fail
    refine (HB.out _).mono ?_; rintro en w' ⟨rfl, hw'⟩
    subst hw'
    go_wp2_with fail
    go_ret
    exact ⟨by rw [Hf.out]; rfl, Hbox.out _⟩
  subst cf
  by_cases cn : n = 0
  case neg =>
    have hn0 : 0 < n := by omega
    have hf : headB 1 t 0 r false n = false := head_no fun h => cn (list_noneE h.2.2.2.2 (by decide))
    have Hf := Lib.hid hf
    clear hf cn
    go_enter Tryz.func64, Tryz.ntmps64
    go_wp2_with fail
    refine (HT.out _).mono ?_; rintro en w' ⟨rfl, hw'⟩
    subst hw'
    go_wp2_with fail
    refine (HB.out _).mono ?_; rintro en w' ⟨rfl, hw'⟩
    subst hw'
    go_wp2_with fail
    refine (HL.out _).mono ?_; rintro en w' ⟨rfl, hw'⟩
    subst hw'
    go_wp2_with fail
    go_ret
    exact ⟨by rw [Hf.out]; rfl, Hbox.out _⟩
  subst cn
  have hno : hasLine t = true → headB 1 t 0 r false 0 = false := fun h => line_head_no 1 t r h (by decide)
  have hyes : hasLine t = false → headB 1 t 0 r false 0 = decide ((t.size : Int) ≤ 4096) := fun h => line_head_yes 1 t r cb h (by decide)
  have Hno := Lib.hid hno
  have Hyes := Lib.hid hyes
  clear hno hyes
  go_enter Tryz.func64, Tryz.ntmps64
  go_wp2_with fail
  refine (HT.out _).mono ?_; rintro en w' ⟨rfl, hw'⟩
  subst hw'
  go_wp2_with fail
  refine (HB.out _).mono ?_; rintro en w' ⟨rfl, hw'⟩
  subst hw'
  go_wp2_with fail
  refine (HL.out _).mono ?_; rintro en w' ⟨rfl, hw'⟩
  subst hw'
  go_wp2_with fail
  go_loop [3] (fun i => ∃ j : Nat, j ≤ t.size ∧ i = .int .i64 j ∧ NoLine t j) (fun i => t.size - (intOf i).toNat)
  case atStart => exact ⟨0, by omega, rfl, fun j _ hj => absurd hj (by omega)⟩
  case round =>
    obtain ⟨j, hj, rfl, hnl⟩ := hrel
    have Hnl := Lib.hid hnl
    clear hnl
    by_cases hlt : j < t.size
    · by_cases c10 : t[j]'hlt = 10
      · have Hq := Lib.hid c10
        have e10 : (((t[j]'hlt).toNat : Int) == 10) = true := by rw [c10]; rfl
        clear c10
        go_wp2_with fail
        go_ret
        exact ⟨by rw [Hno.out (line_yes hlt (.inr Hq.out))]; rfl, Hbox.out _⟩
      · have e10 : (((t[j]'hlt).toNat : Int) == 10) = false := by
          rw [beq_eq_false_iff_ne]; intro h; exact c10 (UInt8.toNat_inj.1 (by have : (10 : UInt8).toNat = 10 := rfl; omega))
        by_cases c13 : t[j]'hlt = 13
        · have Hq := Lib.hid c13
          have e13 : (((t[j]'hlt).toNat : Int) == 13) = true := by rw [c13]; rfl
          clear c10 c13
          go_wp2_with fail
          go_ret
          exact ⟨by rw [Hno.out (line_yes hlt (.inl Hq.out))]; rfl, Hbox.out _⟩
        · have e13 : (((t[j]'hlt).toNat : Int) == 13) = false := by
            rw [beq_eq_false_iff_ne]; intro h; exact c13 (UInt8.toNat_inj.1 (by have : (13 : UInt8).toNat = 13 := rfl; omega))
          have Hc : Hid (t[j]'hlt ≠ 13 ∧ t[j]'hlt ≠ 10) := Lib.hid ⟨c13, c10⟩
          clear c10 c13
          go_wp2_with fail
          go_round
          case rel =>
            refine ⟨j + 1, by omega, by go_num, fun i hi hij => ?_⟩
            by_cases e : i = j
            · subst e; exact Hc.out
            · exact Hnl.out i hi (by omega)
          case measure => simp [intOf]; omega
    · obtain rfl : j = t.size := by omega
      go_wp2_with fail
      go_ret
      exact ⟨by rw [Hyes.out (line_no Hnl.out)]; first | rfl | simp, Hbox.out _⟩
set_option maxHeartbeats 8000000 in
set_option maxRecDepth 100000 in
theorem own_2 (t : ByteArray) (z : Int) (r : Nat) (f : Bool) (a : Option Addr) (c n : Nat) (K : Nat → Val) (w : World) (hr : r < 18446744073709551616) (ht : t.size ≤ 9223372036854775807) (_hn : n ≤ 4000000000000) :
    Calls Tryz.prog 64 #[(Val.mk 2 t z r f a c n K).agg] w (Owned 2 t z r f n w) := by
  have HT : Hid (∀ w : World, Calls Tryz.prog 92 #[.int .i64 2] w fun e w' => e = .returned (.bool true) ∧ w = w') := Lib.hid fun w => rtexts_calls 2 w
  have HL : Hid (∀ w : World, Calls Tryz.prog 65 #[.int .i64 2] w fun e w' => e = .returned (.bool false) ∧ w = w') := Lib.hid fun w => rlists_calls 2 w
  have HB := Lib.hid (refBits_calls r hr)
  have hbox := fun (o : Obj) => ((Below.refl w.heap.size w).alloc (Nat.le_refl _) o)
  have Hbox := Lib.hid hbox
  clear hbox
  unfold Val.agg
  by_cases cz : z = 0
  case neg =>
    have ez : (z != 0) = true := by simpa using cz
    have hf : headB 2 t z r f n = false := head_no fun h => h.1.elim cz (by decide)
    have Hf := Lib.hid hf
    clear hf cz
    go_enter Tryz.func64, Tryz.ntmps64
    go_wp2_with fail
    refine (HT.out _).mono ?_; rintro en w' ⟨rfl, hw'⟩
    subst hw'
    go_wp2_with fail
    go_ret
    exact ⟨by rw [Hf.out]; rfl, Hbox.out _⟩
  subst cz
  by_cases cb : bitsN r = 0
  case neg =>
    have eb : (((bitsN r : Nat) : Int) != 0) = true := by rw [bne_iff_ne]; omega
    have hf : headB 2 t 0 r f n = false := head_no fun h => h.2.1.elim cb (by decide)
    have Hf := Lib.hid hf
    clear hf cb
    go_enter Tryz.func64, Tryz.ntmps64
    go_wp2_with fail
    refine (HT.out _).mono ?_; rintro en w' ⟨rfl, hw'⟩
    subst hw'
    go_wp2_with fail
    refine (HB.out _).mono ?_; rintro en w' ⟨rfl, hw'⟩
    subst hw'
    go_wp2_with fail
    go_ret
    exact ⟨by rw [Hf.out]; rfl, Hbox.out _⟩
  have eb : (((bitsN r : Nat) : Int) != 0) = false := by rw [cb]; rfl
  by_cases cf : f = false
  case neg =>
    have ef : f = true := by simpa using cf
    have hf : headB 2 t 0 r f n = false := head_no fun h => h.2.2.1.elim cf (by decide)
    subst ef
    have Hf := Lib.hid hf
    clear hf cf
    go_enter Tryz.func64, Tryz.ntmps64
    go_wp2_with fail
    refine (HT.out _).mono ?_; rintro en w' ⟨rfl, hw'⟩
    subst hw'
    go_wp2_with fail
    refine (HB.out _).mono ?_; rintro en w' ⟨rfl, hw'⟩
    subst hw'
    go_wp2_with fail
    go_ret
    exact ⟨by rw [Hf.out]; rfl, Hbox.out _⟩
  subst cf
  by_cases cn : n = 0
  case neg =>
    have hn0 : 0 < n := by omega
    have hf : headB 2 t 0 r false n = false := head_no fun h => cn (list_noneE h.2.2.2.2 (by decide))
    have Hf := Lib.hid hf
    clear hf cn
    go_enter Tryz.func64, Tryz.ntmps64
    go_wp2_with fail
    refine (HT.out _).mono ?_; rintro en w' ⟨rfl, hw'⟩
    subst hw'
    go_wp2_with fail
    refine (HB.out _).mono ?_; rintro en w' ⟨rfl, hw'⟩
    subst hw'
    go_wp2_with fail
    refine (HL.out _).mono ?_; rintro en w' ⟨rfl, hw'⟩
    subst hw'
    go_wp2_with fail
    go_ret
    exact ⟨by rw [Hf.out]; rfl, Hbox.out _⟩
  subst cn
  have hno : hasLine t = true → headB 2 t 0 r false 0 = false := fun h => line_head_no 2 t r h (by decide)
  have hyes : hasLine t = false → headB 2 t 0 r false 0 = decide ((t.size : Int) ≤ 4096) := fun h => line_head_yes 2 t r cb h (by decide)
  have Hno := Lib.hid hno
  have Hyes := Lib.hid hyes
  clear hno hyes
  go_enter Tryz.func64, Tryz.ntmps64
  go_wp2_with fail
  refine (HT.out _).mono ?_; rintro en w' ⟨rfl, hw'⟩
  subst hw'
  go_wp2_with fail
  refine (HB.out _).mono ?_; rintro en w' ⟨rfl, hw'⟩
  subst hw'
  go_wp2_with fail
  refine (HL.out _).mono ?_; rintro en w' ⟨rfl, hw'⟩
  subst hw'
  go_wp2_with fail
  go_loop [3] (fun i => ∃ j : Nat, j ≤ t.size ∧ i = .int .i64 j ∧ NoLine t j) (fun i => t.size - (intOf i).toNat)
  case atStart => exact ⟨0, by omega, rfl, fun j _ hj => absurd hj (by omega)⟩
  case round =>
    obtain ⟨j, hj, rfl, hnl⟩ := hrel
    have Hnl := Lib.hid hnl
    clear hnl
    by_cases hlt : j < t.size
    · by_cases c10 : t[j]'hlt = 10
      · have Hq := Lib.hid c10
        have e10 : (((t[j]'hlt).toNat : Int) == 10) = true := by rw [c10]; rfl
        clear c10
        go_wp2_with fail
        go_ret
        exact ⟨by rw [Hno.out (line_yes hlt (.inr Hq.out))]; rfl, Hbox.out _⟩
      · have e10 : (((t[j]'hlt).toNat : Int) == 10) = false := by
          rw [beq_eq_false_iff_ne]; intro h; exact c10 (UInt8.toNat_inj.1 (by have : (10 : UInt8).toNat = 10 := rfl; omega))
        by_cases c13 : t[j]'hlt = 13
        · have Hq := Lib.hid c13
          have e13 : (((t[j]'hlt).toNat : Int) == 13) = true := by rw [c13]; rfl
          clear c10 c13
          go_wp2_with fail
          go_ret
          exact ⟨by rw [Hno.out (line_yes hlt (.inl Hq.out))]; rfl, Hbox.out _⟩
        · have e13 : (((t[j]'hlt).toNat : Int) == 13) = false := by
            rw [beq_eq_false_iff_ne]; intro h; exact c13 (UInt8.toNat_inj.1 (by have : (13 : UInt8).toNat = 13 := rfl; omega))
          have Hc : Hid (t[j]'hlt ≠ 13 ∧ t[j]'hlt ≠ 10) := Lib.hid ⟨c13, c10⟩
          clear c10 c13
          go_wp2_with fail
          go_round
          case rel =>
            refine ⟨j + 1, by omega, by go_num, fun i hi hij => ?_⟩
            by_cases e : i = j
            · subst e; exact Hc.out
            · exact Hnl.out i hi (by omega)
          case measure => simp [intOf]; omega
    · obtain rfl : j = t.size := by omega
      go_wp2_with fail
      go_ret
      exact ⟨by rw [Hyes.out (line_no Hnl.out)]; first | rfl | simp, Hbox.out _⟩
set_option maxHeartbeats 8000000 in
set_option maxRecDepth 100000 in
theorem own_9 (t : ByteArray) (z : Int) (r : Nat) (f : Bool) (a : Option Addr) (c n : Nat) (K : Nat → Val) (w : World) (hr : r < 18446744073709551616) (ht : t.size ≤ 9223372036854775807) (_hn : n ≤ 4000000000000) :
    Calls Tryz.prog 64 #[(Val.mk 9 t z r f a c n K).agg] w (Owned 9 t z r f n w) := by
  have HT : Hid (∀ w : World, Calls Tryz.prog 92 #[.int .i64 9] w fun e w' => e = .returned (.bool true) ∧ w = w') := Lib.hid fun w => rtexts_calls 9 w
  have HL : Hid (∀ w : World, Calls Tryz.prog 65 #[.int .i64 9] w fun e w' => e = .returned (.bool false) ∧ w = w') := Lib.hid fun w => rlists_calls 9 w
  have HB := Lib.hid (refBits_calls r hr)
  have hbox := fun (o : Obj) => ((Below.refl w.heap.size w).alloc (Nat.le_refl _) o)
  have Hbox := Lib.hid hbox
  clear hbox
  unfold Val.agg
  by_cases cz : z = 0
  case neg =>
    have ez : (z != 0) = true := by simpa using cz
    have hf : headB 9 t z r f n = false := head_no fun h => h.1.elim cz (by decide)
    have Hf := Lib.hid hf
    clear hf cz
    go_enter Tryz.func64, Tryz.ntmps64
    go_wp2_with fail
    refine (HT.out _).mono ?_; rintro en w' ⟨rfl, hw'⟩
    subst hw'
    go_wp2_with fail
    go_ret
    exact ⟨by rw [Hf.out]; rfl, Hbox.out _⟩
  subst cz
  by_cases cb : bitsN r = 0
  case neg =>
    have eb : (((bitsN r : Nat) : Int) != 0) = true := by rw [bne_iff_ne]; omega
    have hf : headB 9 t 0 r f n = false := head_no fun h => h.2.1.elim cb (by decide)
    have Hf := Lib.hid hf
    clear hf cb
    go_enter Tryz.func64, Tryz.ntmps64
    go_wp2_with fail
    refine (HT.out _).mono ?_; rintro en w' ⟨rfl, hw'⟩
    subst hw'
    go_wp2_with fail
    refine (HB.out _).mono ?_; rintro en w' ⟨rfl, hw'⟩
    subst hw'
    go_wp2_with fail
    go_ret
    exact ⟨by rw [Hf.out]; rfl, Hbox.out _⟩
  have eb : (((bitsN r : Nat) : Int) != 0) = false := by rw [cb]; rfl
  by_cases cf : f = false
  case neg =>
    have ef : f = true := by simpa using cf
    have hf : headB 9 t 0 r f n = false := head_no fun h => h.2.2.1.elim cf (by decide)
    subst ef
    have Hf := Lib.hid hf
    clear hf cf
    go_enter Tryz.func64, Tryz.ntmps64
    go_wp2_with fail
    refine (HT.out _).mono ?_; rintro en w' ⟨rfl, hw'⟩
    subst hw'
    go_wp2_with fail
    refine (HB.out _).mono ?_; rintro en w' ⟨rfl, hw'⟩
    subst hw'
    go_wp2_with fail
    go_ret
    exact ⟨by rw [Hf.out]; rfl, Hbox.out _⟩
  subst cf
  by_cases cn : n = 0
  case neg =>
    have hn0 : 0 < n := by omega
    have hf : headB 9 t 0 r false n = false := head_no fun h => cn (list_noneE h.2.2.2.2 (by decide))
    have Hf := Lib.hid hf
    clear hf cn
    go_enter Tryz.func64, Tryz.ntmps64
    go_wp2_with fail
    refine (HT.out _).mono ?_; rintro en w' ⟨rfl, hw'⟩
    subst hw'
    go_wp2_with fail
    refine (HB.out _).mono ?_; rintro en w' ⟨rfl, hw'⟩
    subst hw'
    go_wp2_with fail
    refine (HL.out _).mono ?_; rintro en w' ⟨rfl, hw'⟩
    subst hw'
    go_wp2_with fail
    go_ret
    exact ⟨by rw [Hf.out]; rfl, Hbox.out _⟩
  subst cn
  by_cases hz : t.size = 0
  case pos =>
    obtain rfl : t = ⟨#[]⟩ := empty_text (by rw [ByteArray.toList_eq]; simpa [← ByteArray.size_data] using hz)
    have Hb : Hid (headB 9 ⟨#[]⟩ 0 r false 0 = false) := Lib.hid (big_none r)
    clear hz
    go_enter Tryz.func64, Tryz.ntmps64
    go_wp2_with fail
    refine (HT.out _).mono ?_; rintro en w' ⟨rfl, hw'⟩
    subst hw'
    go_wp2_with fail
    refine (HB.out _).mono ?_; rintro en w' ⟨rfl, hw'⟩
    subst hw'
    go_wp2_with fail
    refine (HL.out _).mono ?_; rintro en w' ⟨rfl, hw'⟩
    subst hw'
    go_wp2_with fail
    go_ret
    exact ⟨by rw [Hb.out]; rfl, Hbox.out _⟩
  have h0 : 0 < t.size := by omega
  by_cases c45 : t[0]'h0 = 45
  case pos =>
    have e45 : (((t[0]'h0).toNat : Int) == 45) = true := by rw [c45]; rfl
    have Hs : Hid (Start t 1) := Lib.hid (.inl ⟨rfl, h0, c45⟩)
    clear c45
    by_cases h1 : t.size = 1
    case pos =>
      have e1 : ((1 : Int) == (t.size : Int)) = true := by rw [h1]; rfl
      have Hb : Hid (headB 9 t 0 r false 0 = false) := Lib.hid (big_short t r Hs.out (by omega))
      clear h1
      go_enter Tryz.func64, Tryz.ntmps64
      go_wp2_with fail
      refine (HT.out _).mono ?_; rintro en w' ⟨rfl, hw'⟩
      subst hw'
      go_wp2_with fail
      refine (HB.out _).mono ?_; rintro en w' ⟨rfl, hw'⟩
      subst hw'
      go_wp2_with fail
      refine (HL.out _).mono ?_; rintro en w' ⟨rfl, hw'⟩
      subst hw'
      go_wp2_with fail
      go_ret
      exact ⟨by rw [Hb.out]; rfl, Hbox.out _⟩
    have e1 : ((1 : Int) == (t.size : Int)) = false := by rw [beq_eq_false_iff_ne]; omega
    go_enter Tryz.func64, Tryz.ntmps64
    go_wp2_with fail
    refine (HT.out _).mono ?_; rintro en w' ⟨rfl, hw'⟩
    subst hw'
    go_wp2_with fail
    refine (HB.out _).mono ?_; rintro en w' ⟨rfl, hw'⟩
    subst hw'
    go_wp2_with fail
    refine (HL.out _).mono ?_; rintro en w' ⟨rfl, hw'⟩
    subst hw'
    go_wp2_with fail
    go_loop [4] (fun i => ∃ j : Nat, 1 ≤ j ∧ j ≤ t.size ∧ i = .int .i64 j ∧ DigTo t 1 j) (fun i => t.size - (intOf i).toNat)
    case atStart => exact ⟨1, by omega, by omega, rfl, fun j _ h1 h2 => absurd h2 (by omega)⟩
    case round =>
      obtain ⟨j, ha, hj, rfl, hd⟩ := hrel
      have Hd := Lib.hid hd
      clear hd
      by_cases hlt : j < t.size
      · by_cases c1 : ((t[j]'hlt).toNat : Int) < 48
        · have Hb : Hid (headB 9 t 0 r false 0 = false) := Lib.hid (big_bad t r Hs.out ha hlt (by omega))
          go_wp2_with fail
          go_ret
          exact ⟨by rw [Hb.out]; rfl, Hbox.out _⟩
        · by_cases c2 : (57 : Int) < ((t[j]'hlt).toNat : Int)
          · have Hb : Hid (headB 9 t 0 r false 0 = false) := Lib.hid (big_bad t r Hs.out ha hlt (by omega))
            go_wp2_with fail
            go_ret
            exact ⟨by rw [Hb.out]; rfl, Hbox.out _⟩
          · have Hc : Hid (48 ≤ (t[j]'hlt).toNat ∧ (t[j]'hlt).toNat ≤ 57) := Lib.hid ⟨by omega, by omega⟩
            go_wp2_with fail
            go_round
            case rel =>
              refine ⟨j + 1, by omega, by omega, by go_num, fun i hi h1 h2 => ?_⟩
              by_cases e : i = j
              · subst e; exact Hc.out
              · exact Hd.out i hi h1 (by omega)
            case measure => simp [intOf]; omega
      · obtain rfl : j = t.size := by omega
        have Hy : Hid (headB 9 t 0 r false 0 = decide ((t.size : Int) ≤ 4096)) := Lib.hid (big_yes t r cb Hs.out (by omega) Hd.out)
        go_wp2_with fail
        go_ret
        exact ⟨by rw [Hy.out]; first | rfl | simp, Hbox.out _⟩
  have e45 : (((t[0]'h0).toNat : Int) == 45) = false := by
    rw [beq_eq_false_iff_ne]; intro h; exact c45 (UInt8.toNat_inj.1 (by have : (45 : UInt8).toNat = 45 := rfl; omega))
  have Hs : Hid (Start t 0) := Lib.hid (.inr ⟨rfl, fun _ => c45⟩)
  clear c45
  have e1 : ((0 : Int) == (t.size : Int)) = false := by rw [beq_eq_false_iff_ne]; omega
  go_enter Tryz.func64, Tryz.ntmps64
  go_wp2_with fail
  refine (HT.out _).mono ?_; rintro en w' ⟨rfl, hw'⟩
  subst hw'
  go_wp2_with fail
  refine (HB.out _).mono ?_; rintro en w' ⟨rfl, hw'⟩
  subst hw'
  go_wp2_with fail
  refine (HL.out _).mono ?_; rintro en w' ⟨rfl, hw'⟩
  subst hw'
  go_wp2_with fail
  go_loop [4] (fun i => ∃ j : Nat, 0 ≤ j ∧ j ≤ t.size ∧ i = .int .i64 j ∧ DigTo t 0 j) (fun i => t.size - (intOf i).toNat)
  case atStart => exact ⟨0, by omega, by omega, rfl, fun j _ h1 h2 => absurd h2 (by omega)⟩
  case round =>
    obtain ⟨j, ha, hj, rfl, hd⟩ := hrel
    have Hd := Lib.hid hd
    clear hd
    by_cases hlt : j < t.size
    · by_cases c1 : ((t[j]'hlt).toNat : Int) < 48
      · have Hb : Hid (headB 9 t 0 r false 0 = false) := Lib.hid (big_bad t r Hs.out ha hlt (by omega))
        go_wp2_with fail
        go_ret
        exact ⟨by rw [Hb.out]; rfl, Hbox.out _⟩
      · by_cases c2 : (57 : Int) < ((t[j]'hlt).toNat : Int)
        · have Hb : Hid (headB 9 t 0 r false 0 = false) := Lib.hid (big_bad t r Hs.out ha hlt (by omega))
          go_wp2_with fail
          go_ret
          exact ⟨by rw [Hb.out]; rfl, Hbox.out _⟩
        · have Hc : Hid (48 ≤ (t[j]'hlt).toNat ∧ (t[j]'hlt).toNat ≤ 57) := Lib.hid ⟨by omega, by omega⟩
          go_wp2_with fail
          go_round
          case rel =>
            refine ⟨j + 1, by omega, by omega, by go_num, fun i hi h1 h2 => ?_⟩
            by_cases e : i = j
            · subst e; exact Hc.out
            · exact Hd.out i hi h1 (by omega)
          case measure => simp [intOf]; omega
    · obtain rfl : j = t.size := by omega
      have Hy : Hid (headB 9 t 0 r false 0 = decide ((t.size : Int) ≤ 4096)) := Lib.hid (big_yes t r cb Hs.out (by omega) Hd.out)
      go_wp2_with fail
      go_ret
      exact ⟨by rw [Hy.out]; first | rfl | simp, Hbox.out _⟩
end Go.Proofs.YtpmlhmdmnbmnnaaGreatDoor
