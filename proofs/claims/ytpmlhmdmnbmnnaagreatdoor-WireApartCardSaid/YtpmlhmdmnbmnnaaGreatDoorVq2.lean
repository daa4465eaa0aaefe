/- The document's own of layer 3: has a value what its kind has, and nothing else? Kinds whose texts are not looked into, and more than one. No condition but bounds. (Written by tools/gen_vq1.py.) -/
import Derived.Test.YtpmlhmdmnbmnnaaGreatDoorVq1
namespace Go.Proofs.YtpmlhmdmnbmnnaaGreatDoor
open Go.ChangeShapes Go.WideShapes Go.ChangeAt Go.RowKit


set_option maxHeartbeats 8000000 in
set_option maxRecDepth 100000 in
theorem own_4 (t : ByteArray) (z : Int) (r : Nat) (f : Bool) (a : Option Addr) (c n : Nat) (K : Nat → Val) (w : World) (hr : r < 18446744073709551616) (ht : t.size ≤ 9223372036854775807) (_hn : n ≤ 4000000000000) :
    Calls Tryz.prog 64 #[(Val.mk 4 t z r f a c n K).agg] w (Owned 4 t z r f n w) := by
  have HT : Hid (∀ w : World, Calls Tryz.prog 92 #[.int .i64 4] w fun e w' => e = .returned (.bool true) ∧ w = w') := Lib.hid fun w => rtexts_calls 4 w
  have HL : Hid (∀ w : World, Calls Tryz.prog 65 #[.int .i64 4] w fun e w' => e = .returned (.bool false) ∧ w = w') := Lib.hid fun w => rlists_calls 4 w
  have HB := Lib.hid (refBits_calls r hr)
  have hbox := fun (o : Obj) => ((Below.refl w.heap.size w).alloc (Nat.le_refl _) o)
  have Hbox := Lib.hid hbox
  clear hbox
  unfold Val.agg
  by_cases cz : z = 0
  case neg =>
    have ez : (z != 0) = true := by simpa using cz
    have hf : headB 4 t z r f n = false := head_no fun h => h.1.elim cz (by decide)
    have Hf := Lib.hid hf
    clear hf cz
    go_enter Tryz.func64, Tryz.ntmps64
    go_wp2_with fail
    refine (HT.out _).mono ?_; rintro en w' ⟨rfl, hw'⟩
    subst hw'
    go_wp2_with fail
    go_ret
    exact ⟨by rw [Hf.out]; rfl, Hbox.out _⟩
  subst cz
  by_cases cb : bitsN r = 0
  case neg =>
    have eb : (((bitsN r : Nat) : Int) != 0) = true := by rw [bne_iff_ne]; omega
    have hf : headB 4 t 0 r f n = false := head_no fun h => h.2.1.elim cb (by decide)
    have Hf := Lib.hid hf
    clear hf cb
    go_enter Tryz.func64, Tryz.ntmps64
    go_wp2_with fail
    refine (HT.out _).mono ?_; rintro en w' ⟨rfl, hw'⟩
    subst hw'
    go_wp2_with fail
    refine (HB.out _).mono ?_; rintro en w' ⟨rfl, hw'⟩
    subst hw'
    go_wp2_with fail
    go_ret
    exact ⟨by rw [Hf.out]; rfl, Hbox.out _⟩
  have eb : (((bitsN r : Nat) : Int) != 0) = false := by rw [cb]; rfl
  by_cases cf : f = false
  case neg =>
    have ef : f = true := by simpa using cf
    have hf : headB 4 t 0 r f n = false := head_no fun h => h.2.2.1.elim cf (by decide)
    subst ef
    have Hf := Lib.hid hf
    clear hf cf
    go_enter Tryz.func64, Tryz.ntmps64
    go_wp2_with fail
    refine (HT.out _).mono ?_; rintro en w' ⟨rfl, hw'⟩
    subst hw'
    go_wp2_with fail
    refine (HB.out _).mono ?_; rintro en w' ⟨rfl, hw'⟩
    subst hw'
    go_wp2_with fail
    go_ret
    exact ⟨by rw [Hf.out]; rfl, Hbox.out _⟩
  subst cf
  by_cases cn : n = 0
  case neg =>
    have hn0 : 0 < n := by omega
    have hf : headB 4 t 0 r false n = false := head_no fun h => cn (list_noneE h.2.2.2.2 (by decide))
    have Hf := Lib.hid hf
    clear hf cn
    go_enter Tryz.func64, Tryz.ntmps64
    go_wp2_with fail
    refine (HT.out _).mono ?_; rintro en w' ⟨rfl, hw'⟩
    subst hw'
    go_wp2_with fail
    refine (HB.out _).mono ?_; rintro en w' ⟨rfl, hw'⟩
    subst hw'
    go_wp2_with fail
    refine (HL.out _).mono ?_; rintro en w' ⟨rfl, hw'⟩
    subst hw'
    go_wp2_with fail
    go_ret
    exact ⟨by rw [Hf.out]; rfl, Hbox.out _⟩
  subst cn
  have hl : t.data.toList.length = t.size := Array.length_toList
  have hy : headB 4 t 0 r false 0 = decide ((t.size : Int) ≤ 4096) := by
    unfold headB ownB
    rw [cb]
    simp [textB, listB, hl]
    try omega
  have Hy := Lib.hid hy
  clear hy hl
  go_enter Tryz.func64, Tryz.ntmps64
  go_wp2_with fail
  refine (HT.out _).mono ?_; rintro en w' ⟨rfl, hw'⟩
  subst hw'
  go_wp2_with fail
  refine (HB.out _).mono ?_; rintro en w' ⟨rfl, hw'⟩
  subst hw'
  go_wp2_with fail
  refine (HL.out _).mono ?_; rintro en w' ⟨rfl, hw'⟩
  subst hw'
  go_wp2_with fail
  go_ret
  exact ⟨by rw [Hy.out]; first | rfl | simp, Hbox.out _⟩
set_option maxHeartbeats 8000000 in
set_option maxRecDepth 100000 in
theorem own_10 (t : ByteArray) (z : Int) (r : Nat) (f : Bool) (a : Option Addr) (c n : Nat) (K : Nat → Val) (w : World) (hr : r < 18446744073709551616) (ht : t.size ≤ 9223372036854775807) (_hn : n ≤ 4000000000000) :
    Calls Tryz.prog 64 #[(Val.mk 10 t z r f a c n K).agg] w (Owned 10 t z r f n w) := by
  have HT : Hid (∀ w : World, Calls Tryz.prog 92 #[.int .i64 10] w fun e w' => e = .returned (.bool true) ∧ w = w') := Lib.hid fun w => rtexts_calls 10 w
  have HL : Hid (∀ w : World, Calls Tryz.prog 65 #[.int .i64 10] w fun e w' => e = .returned (.bool false) ∧ w = w') := Lib.hid fun w => rlists_calls 10 w
  have HB := Lib.hid (refBits_calls r hr)
  have hbox := fun (o : Obj) => ((Below.refl w.heap.size w).alloc (Nat.le_refl _) o)
  have Hbox := Lib.hid hbox
  clear hbox
  unfold Val.agg
  by_cases cz : z = 0
  case neg =>
    have ez : (z != 0) = true := by simpa using cz
    have hf : headB 10 t z r f n = false := head_no fun h => h.1.elim cz (by decide)
    have Hf := Lib.hid hf
    clear hf cz
    go_enter Tryz.func64, Tryz.ntmps64
    go_wp2_with fail
    refine (HT.out _).mono ?_; rintro en w' ⟨rfl, hw'⟩
    subst hw'
    go_wp2_with fail
    go_ret
    exact ⟨by rw [Hf.out]; rfl, Hbox.out _⟩
  subst cz
  by_cases cb : bitsN r = 0
  case neg =>
    have eb : (((bitsN r : Nat) : Int) != 0) = true := by rw [bne_iff_ne]; omega
    have hf : headB 10 t 0 r f n = false := head_no fun h => h.2.1.elim cb (by decide)
    have Hf := Lib.hid hf
    clear hf cb
    go_enter Tryz.func64, Tryz.ntmps64
    go_wp2_with fail
    refine (HT.out _).mono ?_; rintro en w' ⟨rfl, hw'⟩
    subst hw'
    go_wp2_with fail
    refine (HB.out _).mono ?_; rintro en w' ⟨rfl, hw'⟩
    subst hw'
    go_wp2_with fail
    go_ret
    exact ⟨by rw [Hf.out]; rfl, Hbox.out _⟩
  have eb : (((bitsN r : Nat) : Int) != 0) = false := by rw [cb]; rfl
  by_cases cf : f = false
  case neg =>
    have ef : f = true := by simpa using cf
    have hf : headB 10 t 0 r f n = false := head_no fun h => h.2.2.1.elim cf (by decide)
    subst ef
    have Hf := Lib.hid hf
    clear hf cf
    go_enter Tryz.func64, Tryz.ntmps64
    go_wp2_with fail
    refine (HT.out _).mono ?_; rintro en w' ⟨rfl, hw'⟩
    subst hw'
    go_wp2_with fail
    refine (HB.out _).mono ?_; rintro en w' ⟨rfl, hw'⟩
    subst hw'
    go_wp2_with fail
    go_ret
    exact ⟨by rw [Hf.out]; rfl, Hbox.out _⟩
  subst cf
  by_cases cn : n = 0
  case neg =>
    have hn0 : 0 < n := by omega
    have hf : headB 10 t 0 r false n = false := head_no fun h => cn (list_noneE h.2.2.2.2 (by decide))
    have Hf := Lib.hid hf
    clear hf cn
    go_enter Tryz.func64, Tryz.ntmps64
    go_wp2_with fail
    refine (HT.out _).mono ?_; rintro en w' ⟨rfl, hw'⟩
    subst hw'
    go_wp2_with fail
    refine (HB.out _).mono ?_; rintro en w' ⟨rfl, hw'⟩
    subst hw'
    go_wp2_with fail
    refine (HL.out _).mono ?_; rintro en w' ⟨rfl, hw'⟩
    subst hw'
    go_wp2_with fail
    go_ret
    exact ⟨by rw [Hf.out]; rfl, Hbox.out _⟩
  subst cn
  have hl : t.data.toList.length = t.size := Array.length_toList
  have hy : headB 10 t 0 r false 0 = decide ((t.size : Int) ≤ 4096) := by
    unfold headB ownB
    rw [cb]
    simp [textB, listB, hl]
    try omega
  have Hy := Lib.hid hy
  clear hy hl
  go_enter Tryz.func64, Tryz.ntmps64
  go_wp2_with fail
  refine (HT.out _).mono ?_; rintro en w' ⟨rfl, hw'⟩
  subst hw'
  go_wp2_with fail
  refine (HB.out _).mono ?_; rintro en w' ⟨rfl, hw'⟩
  subst hw'
  go_wp2_with fail
  refine (HL.out _).mono ?_; rintro en w' ⟨rfl, hw'⟩
  subst hw'
  go_wp2_with fail
  go_ret
  exact ⟨by rw [Hy.out]; first | rfl | simp, Hbox.out _⟩
set_option maxHeartbeats 8000000 in
set_option maxRecDepth 100000 in
theorem own_11 (t : ByteArray) (z : Int) (r : Nat) (f : Bool) (a : Option Addr) (c n : Nat) (K : Nat → Val) (w : World) (hr : r < 18446744073709551616) (ht : t.size ≤ 9223372036854775807) (_hn : n ≤ 4000000000000) :
    Calls Tryz.prog 64 #[(Val.mk 11 t z r f a c n K).agg] w (Owned 11 t z r f n w) := by
  have HT : Hid (∀ w : World, Calls Tryz.prog 92 #[.int .i64 11] w fun e w' => e = .returned (.bool true) ∧ w = w') := Lib.hid fun w => rtexts_calls 11 w
  have HL : Hid (∀ w : World, Calls Tryz.prog 65 #[.int .i64 11] w fun e w' => e = .returned (.bool false) ∧ w = w') := Lib.hid fun w => rlists_calls 11 w
  have HB := Lib.hid (refBits_calls r hr)
  have hbox := fun (o : Obj) => ((Below.refl w.heap.size w).alloc (Nat.le_refl _) o)
  have Hbox := Lib.hid hbox
  clear hbox
  unfold Val.agg
  by_cases cz : z = 0
  case neg =>
    have ez : (z != 0) = true := by simpa using cz
    have hf : headB 11 t z r f n = false := head_no fun h => h.1.elim cz (by decide)
    have Hf := Lib.hid hf
    clear hf cz
    go_enter Tryz.func64, Tryz.ntmps64
    go_wp2_with fail
    refine (HT.out _).mono ?_; rintro en w' ⟨rfl, hw'⟩
    subst hw'
    go_wp2_with fail
    go_ret
    exact ⟨by rw [Hf.out]; rfl, Hbox.out _⟩
  subst cz
  by_cases cb : bitsN r = 0
  case neg =>
    have eb : (((bitsN r : Nat) : Int) != 0) = true := by rw [bne_iff_ne]; omega
    have hf : headB 11 t 0 r f n = false := head_no fun h => h.2.1.elim cb (by decide)
    have Hf := Lib.hid hf
    clear hf cb
    go_enter Tryz.func64, Tryz.ntmps64
    go_wp2_with fail
    refine (HT.out _).mono ?_; rintro en w' ⟨rfl, hw'⟩
    subst hw'
    go_wp2_with fail
    refine (HB.out _).mono ?_; rintro en w' ⟨rfl, hw'⟩
    subst hw'
    go_wp2_with fail
    go_ret
    exact ⟨by rw [Hf.out]; rfl, Hbox.out _⟩
  have eb : (((bitsN r : Nat) : Int) != 0) = false := by rw [cb]; rfl
  by_cases cf : f = false
  case neg =>
    have ef : f = true := by simpa using cf
    have hf : headB 11 t 0 r f n = false := head_no fun h => h.2.2.1.elim cf (by decide)
    subst ef
    have Hf := Lib.hid hf
    clear hf cf
    go_enter Tryz.func64, Tryz.ntmps64
    go_wp2_with fail
    refine (HT.out _).mono ?_; rintro en w' ⟨rfl, hw'⟩
    subst hw'
    go_wp2_with fail
    refine (HB.out _).mono ?_; rintro en w' ⟨rfl, hw'⟩
    subst hw'
    go_wp2_with fail
    go_ret
    exact ⟨by rw [Hf.out]; rfl, Hbox.out _⟩
  subst cf
  by_cases cn : n = 0
  case neg =>
    have hn0 : 0 < n := by omega
    have hf : headB 11 t 0 r false n = false := head_no fun h => cn (list_noneE h.2.2.2.2 (by decide))
    have Hf := Lib.hid hf
    clear hf cn
    go_enter Tryz.func64, Tryz.ntmps64
    go_wp2_with fail
    refine (HT.out _).mono ?_; rintro en w' ⟨rfl, hw'⟩
    subst hw'
    go_wp2_with fail
    refine (HB.out _).mono ?_; rintro en w' ⟨rfl, hw'⟩
    subst hw'
    go_wp2_with fail
    refine (HL.out _).mono ?_; rintro en w' ⟨rfl, hw'⟩
    subst hw'
    go_wp2_with fail
    go_ret
    exact ⟨by rw [Hf.out]; rfl, Hbox.out _⟩
  subst cn
  have hl : t.data.toList.length = t.size := Array.length_toList
  by_cases h4 : 4 ≤ t.size
  case neg =>
    have hy : headB 11 t 0 r false 0 = false := by
      unfold headB textB
      simp [hl, h4]
    have Hy := Lib.hid hy
    have e4 : decide ((4 : Int) ≤ (t.size : Int)) = false := decide_eq_false (by omega)
    clear hy hl h4
    go_enter Tryz.func64, Tryz.ntmps64
    go_wp2_with fail
    refine (HT.out _).mono ?_; rintro en w' ⟨rfl, hw'⟩
    subst hw'
    go_wp2_with fail
    refine (HB.out _).mono ?_; rintro en w' ⟨rfl, hw'⟩
    subst hw'
    go_wp2_with fail
    refine (HL.out _).mono ?_; rintro en w' ⟨rfl, hw'⟩
    subst hw'
    go_wp2_with fail
    go_ret
    exact ⟨by rw [Hy.out]; first | rfl | simp, Hbox.out _⟩
  have e4 : decide ((4 : Int) ≤ (t.size : Int)) = true := decide_eq_true (by omega)
  have hy : headB 11 t 0 r false 0 = (((t.extract 3 4).toList == [58]) && decide ((t.size : Int) ≤ 4096)) := verb_head t r cb h4
  have Hy := Lib.hid hy
  clear hy hl
  cases hx : ((t.extract 3 4).toList == [58]) with
  | false =>
    rw [hx] at Hy
    go_enter Tryz.func64, Tryz.ntmps64
    go_wp2_with fail
    refine (HT.out _).mono ?_; rintro en w' ⟨rfl, hw'⟩
    subst hw'
    go_wp2_with fail
    refine (HB.out _).mono ?_; rintro en w' ⟨rfl, hw'⟩
    subst hw'
    go_wp2_with fail
    refine (HL.out _).mono ?_; rintro en w' ⟨rfl, hw'⟩
    subst hw'
    go_wp2_with fail
    go_ret
    exact ⟨by rw [Hy.out]; first | rfl | simp, Hbox.out _⟩
  | true =>
    rw [hx] at Hy
    go_enter Tryz.func64, Tryz.ntmps64
    go_wp2_with fail
    refine (HT.out _).mono ?_; rintro en w' ⟨rfl, hw'⟩
    subst hw'
    go_wp2_with fail
    refine (HB.out _).mono ?_; rintro en w' ⟨rfl, hw'⟩
    subst hw'
    go_wp2_with fail
    refine (HL.out _).mono ?_; rintro en w' ⟨rfl, hw'⟩
    subst hw'
    go_wp2_with fail
    go_ret
    exact ⟨by rw [Hy.out]; first | rfl | simp, Hbox.out _⟩
set_option maxHeartbeats 8000000 in
set_option maxRecDepth 100000 in
theorem own_12 (t : ByteArray) (z : Int) (r : Nat) (f : Bool) (a : Option Addr) (c n : Nat) (K : Nat → Val) (w : World) (hr : r < 18446744073709551616) (ht : t.size ≤ 9223372036854775807) (_hn : n ≤ 4000000000000) :
    Calls Tryz.prog 64 #[(Val.mk 12 t z r f a c n K).agg] w (Owned 12 t z r f n w) := by
  have HT : Hid (∀ w : World, Calls Tryz.prog 92 #[.int .i64 12] w fun e w' => e = .returned (.bool false) ∧ w = w') := Lib.hid fun w => rtexts_calls 12 w
  have HL : Hid (∀ w : World, Calls Tryz.prog 65 #[.int .i64 12] w fun e w' => e = .returned (.bool true) ∧ w = w') := Lib.hid fun w => rlists_calls 12 w
  have HB := Lib.hid (refBits_calls r hr)
  have hbox := fun (o : Obj) => ((Below.refl w.heap.size w).alloc (Nat.le_refl _) o)
  have Hbox := Lib.hid hbox
  clear hbox
  unfold Val.agg
  by_cases ct : t.toList.isEmpty = true
  case neg =>
    have et : t.toList.isEmpty = false := by simpa using ct
    have hf : headB 12 t z r f n = false := head_no fun h => ct (text_noneE h.2.2.2.1 (by decide))
    have Hf := Lib.hid hf
    clear hf ct
    go_enter Tryz.func64, Tryz.ntmps64
    go_wp2_with fail
    refine (HT.out _).mono ?_; rintro en w' ⟨rfl, hw'⟩
    subst hw'
    go_wp2_with fail
    go_ret
    exact ⟨by rw [Hf.out]; rfl, Hbox.out _⟩
  obtain rfl : t = ⟨#[]⟩ := empty_text ct
  clear ct
  by_cases cz : z = 0
  case neg =>
    have ez : (z != 0) = true := by simpa using cz
    have hf : headB 12 ⟨#[]⟩ z r f n = false := head_no fun h => h.1.elim cz (by decide)
    have Hf := Lib.hid hf
    clear hf cz
    go_enter Tryz.func64, Tryz.ntmps64
    go_wp2_with fail
    refine (HT.out _).mono ?_; rintro en w' ⟨rfl, hw'⟩
    subst hw'
    go_wp2_with fail
    go_ret
    exact ⟨by rw [Hf.out]; rfl, Hbox.out _⟩
  subst cz
  by_cases cb : bitsN r = 0
  case neg =>
    have eb : (((bitsN r : Nat) : Int) != 0) = true := by rw [bne_iff_ne]; omega
    have hf : headB 12 ⟨#[]⟩ 0 r f n = false := head_no fun h => h.2.1.elim cb (by decide)
    have Hf := Lib.hid hf
    clear hf cb
    go_enter Tryz.func64, Tryz.ntmps64
    go_wp2_with fail
    refine (HT.out _).mono ?_; rintro en w' ⟨rfl, hw'⟩
    subst hw'
    go_wp2_with fail
    refine (HB.out _).mono ?_; rintro en w' ⟨rfl, hw'⟩
    subst hw'
    go_wp2_with fail
    go_ret
    exact ⟨by rw [Hf.out]; rfl, Hbox.out _⟩
  have eb : (((bitsN r : Nat) : Int) != 0) = false := by rw [cb]; rfl
  by_cases cf : f = false
  case neg =>
    have ef : f = true := by simpa using cf
    have hf : headB 12 ⟨#[]⟩ 0 r f n = false := head_no fun h => h.2.2.1.elim cf (by decide)
    subst ef
    have Hf := Lib.hid hf
    clear hf cf
    go_enter Tryz.func64, Tryz.ntmps64
    go_wp2_with fail
    refine (HT.out _).mono ?_; rintro en w' ⟨rfl, hw'⟩
    subst hw'
    go_wp2_with fail
    refine (HB.out _).mono ?_; rintro en w' ⟨rfl, hw'⟩
    subst hw'
    go_wp2_with fail
    go_ret
    exact ⟨by rw [Hf.out]; rfl, Hbox.out _⟩
  subst cf
  have hy : headB 12 ⟨#[]⟩ 0 r false n = (((n : Int).tmod 2) == 0) := by
    unfold headB ownB
    rw [cb, Int.tmod_eq_emod_of_nonneg (by omega)]
    simp [textB, listB]
    by_cases h : n % 2 = 0
    · rw [decide_eq_true h]; exact (beq_iff_eq.2 (by omega)).symm
    · rw [decide_eq_false h]; exact (beq_eq_false_iff_ne.2 (by omega)).symm
  have Hy := Lib.hid hy
  clear hy
  go_enter Tryz.func64, Tryz.ntmps64
  go_wp2_with fail
  refine (HT.out _).mono ?_; rintro en w' ⟨rfl, hw'⟩
  subst hw'
  go_wp2_with fail
  refine (HB.out _).mono ?_; rintro en w' ⟨rfl, hw'⟩
  subst hw'
  go_wp2_with fail
  refine (HL.out _).mono ?_; rintro en w' ⟨rfl, hw'⟩
  subst hw'
  go_wp2_with fail
  go_ret
  exact ⟨by rw [Hy.out]; first | rfl | simp, Hbox.out _⟩
set_option maxHeartbeats 8000000 in
set_option maxRecDepth 100000 in
theorem own_14 (t : ByteArray) (z : Int) (r : Nat) (f : Bool) (a : Option Addr) (c n : Nat) (K : Nat → Val) (w : World) (hr : r < 18446744073709551616) (ht : t.size ≤ 9223372036854775807) (_hn : n ≤ 4000000000000) :
    Calls Tryz.prog 64 #[(Val.mk 14 t z r f a c n K).agg] w (Owned 14 t z r f n w) := by
  have HT : Hid (∀ w : World, Calls Tryz.prog 92 #[.int .i64 14] w fun e w' => e = .returned (.bool false) ∧ w = w') := Lib.hid fun w => rtexts_calls 14 w
  have HL : Hid (∀ w : World, Calls Tryz.prog 65 #[.int .i64 14] w fun e w' => e = .returned (.bool true) ∧ w = w') := Lib.hid fun w => rlists_calls 14 w
  have HB := Lib.hid (refBits_calls r hr)
  have hbox := fun (o : Obj) => ((Below.refl w.heap.size w).alloc (Nat.le_refl _) o)
  have Hbox := Lib.hid hbox
  clear hbox
  unfold Val.agg
  by_cases ct : t.toList.isEmpty = true
  case neg =>
    have et : t.toList.isEmpty = false := by simpa using ct
    have hf : headB 14 t z r f n = false := head_no fun h => ct (text_noneE h.2.2.2.1 (by decide))
    have Hf := Lib.hid hf
    clear hf ct
    go_enter Tryz.func64, Tryz.ntmps64
    go_wp2_with fail
    refine (HT.out _).mono ?_; rintro en w' ⟨rfl, hw'⟩
    subst hw'
    go_wp2_with fail
    go_ret
    exact ⟨by rw [Hf.out]; rfl, Hbox.out _⟩
  obtain rfl : t = ⟨#[]⟩ := empty_text ct
  clear ct
  by_cases cz : z = 0
  case neg =>
    have ez : (z != 0) = true := by simpa using cz
    have hf : headB 14 ⟨#[]⟩ z r f n = false := head_no fun h => h.1.elim cz (by decide)
    have Hf := Lib.hid hf
    clear hf cz
    go_enter Tryz.func64, Tryz.ntmps64
    go_wp2_with fail
    refine (HT.out _).mono ?_; rintro en w' ⟨rfl, hw'⟩
    subst hw'
    go_wp2_with fail
    go_ret
    exact ⟨by rw [Hf.out]; rfl, Hbox.out _⟩
  subst cz
  by_cases cb : bitsN r = 0
  case neg =>
    have eb : (((bitsN r : Nat) : Int) != 0) = true := by rw [bne_iff_ne]; omega
    have hf : headB 14 ⟨#[]⟩ 0 r f n = false := head_no fun h => h.2.1.elim cb (by decide)
    have Hf := Lib.hid hf
    clear hf cb
    go_enter Tryz.func64, Tryz.ntmps64
    go_wp2_with fail
    refine (HT.out _).mono ?_; rintro en w' ⟨rfl, hw'⟩
    subst hw'
    go_wp2_with fail
    refine (HB.out _).mono ?_; rintro en w' ⟨rfl, hw'⟩
    subst hw'
    go_wp2_with fail
    go_ret
    exact ⟨by rw [Hf.out]; rfl, Hbox.out _⟩
  have eb : (((bitsN r : Nat) : Int) != 0) = false := by rw [cb]; rfl
  by_cases cf : f = false
  case neg =>
    have ef : f = true := by simpa using cf
    have hf : headB 14 ⟨#[]⟩ 0 r f n = false := head_no fun h => h.2.2.1.elim cf (by decide)
    subst ef
    have Hf := Lib.hid hf
    clear hf cf
    go_enter Tryz.func64, Tryz.ntmps64
    go_wp2_with fail
    refine (HT.out _).mono ?_; rintro en w' ⟨rfl, hw'⟩
    subst hw'
    go_wp2_with fail
    refine (HB.out _).mono ?_; rintro en w' ⟨rfl, hw'⟩
    subst hw'
    go_wp2_with fail
    go_ret
    exact ⟨by rw [Hf.out]; rfl, Hbox.out _⟩
  subst cf
  have hy : headB 14 ⟨#[]⟩ 0 r false n = decide ((0 : Int) < (n : Int)) := by
    unfold headB ownB
    rw [cb]
    simp [textB, listB]
    try omega
  have Hy := Lib.hid hy
  clear hy
  go_enter Tryz.func64, Tryz.ntmps64
  go_wp2_with fail
  refine (HT.out _).mono ?_; rintro en w' ⟨rfl, hw'⟩
  subst hw'
  go_wp2_with fail
  refine (HB.out _).mono ?_; rintro en w' ⟨rfl, hw'⟩
  subst hw'
  go_wp2_with fail
  refine (HL.out _).mono ?_; rintro en w' ⟨rfl, hw'⟩
  subst hw'
  go_wp2_with fail
  go_ret
  exact ⟨by rw [Hy.out]; first | rfl | simp, Hbox.out _⟩
end Go.Proofs.YtpmlhmdmnbmnnaaGreatDoor
