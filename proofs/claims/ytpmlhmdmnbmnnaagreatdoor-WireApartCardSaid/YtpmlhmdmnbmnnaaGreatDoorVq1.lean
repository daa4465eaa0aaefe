/- The document's own of layer 3: has a value what its kind has, and nothing else? Kinds without a text. No condition but bounds. (Written by tools/gen_vq1.py.) -/
import Derived.Test.YtpmlhmdmnbmnnaaGreatDoorVeM
import Derived.Test.YtpmlhmdmnbmnnaaGreatDoorVcN
namespace Go.Proofs.YtpmlhmdmnbmnnaaGreatDoor
open Go.ChangeShapes Go.WideShapes Go.ChangeAt Go.RowKit


def textsK (k : Int) : Bool := k == 1 || k == 2 || k == 4 || decide (9 ≤ k ∧ k ≤ 11)
theorem rtexts_all (k : Int) (hk : 1 ≤ k ∧ k ≤ 14) (w : World) : Calls Tryz.prog 92 #[.int .i64 k] w fun e w' => e = .returned (.bool (textsK k)) ∧ w = w' := by
  have h : k = 1 ∨ k = 2 ∨ k = 3 ∨ k = 4 ∨ k = 5 ∨ k = 6 ∨ k = 7 ∨ k = 8 ∨ k = 9 ∨ k = 10 ∨ k = 11 ∨ k = 12 ∨ k = 13 ∨ k = 14 := by omega
  clear hk
  rcases h with rfl | rfl | rfl | rfl | rfl | rfl | rfl | rfl | rfl | rfl | rfl | rfl | rfl | rfl
  all_goals
    go_enter Tryz.func92, Tryz.ntmps92
    go_wp2
    go_ret
    exact ⟨rfl, rfl⟩
theorem rtexts_calls (k : Int) (w : World) (hk : 1 ≤ k ∧ k ≤ 14 := by decide) : Calls Tryz.prog 92 #[.int .i64 k] w fun e w' => e = .returned (.bool (textsK k)) ∧ w = w' := rtexts_all k hk w
def Owned (k : Int) (t : ByteArray) (z : Int) (r : Nat) (f : Bool) (n : Nat) (w : World) (e : Ending) (w' : World) : Prop := e = .returned (.bool (headB k t z r f n)) ∧ Below w.heap.size w w'
theorem head_partsE {k : Int} {t : ByteArray} {z : Int} {r : Nat} {f : Bool} {n : Nat} (h : headB k t z r f n = true) :
    (z = 0 ∨ k = 3) ∧ (bitsN r = 0 ∨ k = 7) ∧ (f = false ∨ k = 8) ∧ textB k t.data.toList = true ∧ listB k n = true := by
  unfold headB ownB at h
  simp only [Bool.and_eq_true, Bool.or_eq_true, beq_iff_eq, decide_eq_true_eq, Bool.not_eq_true'] at h
  exact ⟨h.1.1.1.1, h.1.1.1.2, h.1.1.2, h.1.2, h.2⟩
theorem head_no {k : Int} {t : ByteArray} {z : Int} {r : Nat} {f : Bool} {n : Nat} (h : ¬ ((z = 0 ∨ k = 3) ∧ (bitsN r = 0 ∨ k = 7) ∧ (f = false ∨ k = 8) ∧ textB k t.data.toList = true ∧ listB k n = true)) : headB k t z r f n = false := by
  cases hh : headB k t z r f n with
  | false => rfl
  | true => exact absurd (head_partsE hh) h
theorem text_noneE {k : Int} {t : ByteArray} (h : textB k t.data.toList = true) (hk : k = 3 ∨ k = 5 ∨ k = 6 ∨ k = 7 ∨ k = 8 ∨ k = 12 ∨ k = 13 ∨ k = 14) : t.toList.isEmpty = true := by
  unfold textB at h
  rw [if_neg (by omega), if_neg (by omega), if_neg (by omega), if_neg (by omega), if_pos (by omega)] at h
  simp only [Bool.and_eq_true] at h
  rw [ByteArray.toList_eq t]
  exact h.2
theorem list_noneE {k : Int} {n : Nat} (h : listB k n = true) (hk : k ≠ 5 ∧ k ≠ 12 ∧ k ≠ 13 ∧ k ≠ 14) : n = 0 := by
  unfold listB at h
  rw [if_neg hk.1, if_neg hk.2.2.1, if_neg hk.2.1, if_neg hk.2.2.2] at h
  simpa using h
theorem empty_text {t : ByteArray} (h : t.toList.isEmpty = true) : t = ⟨#[]⟩ := by
  rw [ByteArray.toList_eq t] at h
  have h : t.data.toList = [] := by simpa using h
  cases t with
  | mk x => exact congrArg ByteArray.mk (Array.toList_eq_nil_iff.1 h)

theorem verb_head (t : ByteArray) (r : Nat) (cb : bitsN r = 0) (h4 : 4 ≤ t.size) : headB 11 t 0 r false 0 = (((t.extract 3 4).toList == [58]) && decide ((t.size : Int) ≤ 4096)) := by
  have hl : t.data.toList.length = t.size := Array.length_toList
  have hx : (t.extract 3 4).toList = [t.data.toList.getD 3 0] := by
    rw [ByteArray.toList_eq, ByteArray.data_extract, Array.toList_extract]
    have h3 : 3 < t.data.toList.length := by omega
    rw [List.getD_eq_getElem?_getD, List.getElem?_eq_getElem h3]
    apply List.ext_getElem
    · simp; omega
    · intro i h1 h2
      simp at h2
      subst h2
      simp
  rw [hx]
  have e1 : headB 11 t 0 r false 0 = textB 11 t.data.toList := by
    unfold headB ownB
    rw [cb]
    simp [listB]
  rw [e1]
  unfold textB
  rw [hl, if_neg (by omega), if_neg (by omega), if_neg (by omega), if_pos rfl, decide_eq_true h4, Bool.true_and]
  have e2 : decide (t.size ≤ 4096) = decide ((t.size : Int) ≤ 4096) := by congr 1; exact propext ⟨fun h => by omega, fun h => by omega⟩
  rw [e2, Bool.and_comm]
  congr 1
  simp

theorem line_head_no (k : Int) (t : ByteArray) (r : Nat) (h : hasLine t = true) (hk : k = 1 ∨ k = 2) : headB k t 0 r false 0 = false := head_no fun hp => by
  have h4 := hp.2.2.2.1
  unfold textB at h4
  rw [if_pos hk] at h4
  have e : (t.data.toList.any fun b => b == 13 || b == 10) = hasLine t := rfl
  rw [e, h] at h4
  simp at h4
theorem line_head_yes (k : Int) (t : ByteArray) (r : Nat) (cb : bitsN r = 0) (h : hasLine t = false) (hk : k = 1 ∨ k = 2) : headB k t 0 r false 0 = decide ((t.size : Int) ≤ 4096) := by
  have hl : t.data.toList.length = t.size := Array.length_toList
  have e1 : headB k t 0 r false 0 = textB k t.data.toList := by
    unfold headB ownB
    rw [cb]
    rcases hk with rfl | rfl <;> simp [listB]
  have e : (t.data.toList.any fun b => b == 13 || b == 10) = hasLine t := rfl
  rw [e1]
  unfold textB
  rw [if_pos hk, e, h, hl, Bool.not_false, Bool.and_true]
  congr 1
  exact propext ⟨fun h => by omega, fun h => by omega⟩

def Start (t : ByteArray) (a : Nat) : Prop := (a = 1 ∧ ∃ h0 : 0 < t.size, t[0]'h0 = 45) ∨ (a = 0 ∧ ∀ h0 : 0 < t.size, t[0]'h0 ≠ 45)
def DigTo (t : ByteArray) (a j : Nat) : Prop := ∀ i (hi : i < t.size), a ≤ i → i < j → 48 ≤ (t[i]'hi).toNat ∧ (t[i]'hi).toNat ≤ 57
theorem big_from {t : ByteArray} {a : Nat} (h : Start t a) : bigB t.data.toList = (decide (a < t.size) && (t.data.toList.drop a).all fun b => decide (48 ≤ b.toNat ∧ b.toNat ≤ 57)) := by
  obtain ⟨⟨l⟩⟩ := t
  have h : (a = 1 ∧ ∃ h0 : 0 < l.length, l[0]'h0 = 45) ∨ (a = 0 ∧ ∀ h0 : 0 < l.length, l[0]'h0 ≠ 45) := h
  show bigB l = (decide (a < l.length) && (l.drop a).all fun b => decide (48 ≤ b.toNat ∧ b.toNat ≤ 57))
  rcases h with ⟨rfl, h0, h45⟩ | ⟨rfl, hn⟩
  · cases l with
    | nil => simp at h0
    | cons b m =>
      have e : b = 45 := by simpa using h45
      subst e
      unfold bigB
      cases m <;> simp
  · cases l with
    | nil => rfl
    | cons b m =>
      have hb : b ≠ 45 := fun e => hn (by simp) (by simpa using e)
      have e : bigB (b :: m) = (!(b :: m).isEmpty && (b :: m).all fun b => decide (48 ≤ b.toNat ∧ b.toNat ≤ 57)) := by
        unfold bigB
        split
        case h_1 heq => exact absurd (List.cons.inj heq).1 hb
        case h_2 => rfl
      rw [e]
      simp
theorem big_no {t : ByteArray} {r : Nat} (h : bigB t.data.toList = false) : headB 9 t 0 r false 0 = false := head_no fun hp => by
  have h4 := hp.2.2.2.1
  unfold textB at h4
  rw [if_neg (by omega), if_neg (by omega), if_pos rfl, h] at h4
  simp at h4
theorem big_bad (t : ByteArray) (r : Nat) {a j : Nat} (h : Start t a) (ha : a ≤ j) (hj : j < t.size) (hb : ((t[j]'hj).toNat : Int) < 48 ∨ (57 : Int) < ((t[j]'hj).toNat : Int)) : headB 9 t 0 r false 0 = false := big_no <| by
  have hl : t.data.toList.length = t.size := Array.length_toList
  rw [big_from h, Bool.and_eq_false_iff]
  right
  rw [List.all_eq_false]
  refine ⟨t[j]'hj, ?_, ?_⟩
  · have hd : j - a < (t.data.toList.drop a).length := by rw [List.length_drop]; omega
    have e : (t.data.toList.drop a)[j - a]'hd = t[j]'hj := by
      rw [List.getElem_drop, Array.getElem_toList]
      have : a + (j - a) = j := by omega
      simp only [this]
      rfl
    rw [← e]
    exact List.getElem_mem hd
  · rw [decide_eq_true_iff]
    omega
theorem big_short (t : ByteArray) (r : Nat) {a : Nat} (h : Start t a) (ha : t.size ≤ a) : headB 9 t 0 r false 0 = false := big_no <| by
  rw [big_from h, decide_eq_false (by omega), Bool.false_and]
theorem big_none (r : Nat) : headB 9 ⟨#[]⟩ 0 r false 0 = false := big_no rfl
theorem big_yes (t : ByteArray) (r : Nat) (cb : bitsN r = 0) {a : Nat} (h : Start t a) (ha : a < t.size) (hd : DigTo t a t.size) : headB 9 t 0 r false 0 = decide ((t.size : Int) ≤ 4096) := by
  have hl : t.data.toList.length = t.size := Array.length_toList
  have hb : bigB t.data.toList = true := by
    rw [big_from h, decide_eq_true ha, Bool.true_and, List.all_eq_true]
    intro b hm
    obtain ⟨i, hi, rfl⟩ := List.getElem_of_mem hm
    rw [List.length_drop, hl] at hi
    rw [List.getElem_drop, Array.getElem_toList, decide_eq_true_iff]
    exact hd (a + i) (by omega) (by omega) (by omega)
  have e1 : headB 9 t 0 r false 0 = textB 9 t.data.toList := by
    unfold headB ownB
    rw [cb]
    simp [listB]
  rw [e1]
  unfold textB
  rw [if_neg (by omega), if_neg (by omega), if_pos rfl, hb, hl, Bool.and_true]
  congr 1
  exact propext ⟨fun h => by omega, fun h => by omega⟩

set_option maxHeartbeats 8000000 in
set_option maxRecDepth 100000 in
theorem own_3 (t : ByteArray) (z : Int) (r : Nat) (f : Bool) (a : Option Addr) (c n : Nat) (K : Nat → Val) (w : World) (hr : r < 18446744073709551616) (ht : t.size ≤ 9223372036854775807) (_hn : n ≤ 4000000000000) :
    Calls Tryz.prog 64 #[(Val.mk 3 t z r f a c n K).agg] w (Owned 3 t z r f n w) := by
  have HT : Hid (∀ w : World, Calls Tryz.prog 92 #[.int .i64 3] w fun e w' => e = .returned (.bool false) ∧ w = w') := Lib.hid fun w => rtexts_calls 3 w
  have HL : Hid (∀ w : World, Calls Tryz.prog 65 #[.int .i64 3] w fun e w' => e = .returned (.bool false) ∧ w = w') := Lib.hid fun w => rlists_calls 3 w
  have HB := Lib.hid (refBits_calls r hr)
  have hbox := fun (o : Obj) => ((Below.refl w.heap.size w).alloc (Nat.le_refl _) o)
  have Hbox := Lib.hid hbox
  clear hbox
  unfold Val.agg
  by_cases ct : t.toList.isEmpty = true
  case neg =>
    have et : t.toList.isEmpty = false := by simpa using ct
    have hf : headB 3 t z r f n = false := head_no fun h => ct (text_noneE h.2.2.2.1 (by decide))
    have Hf := Lib.hid hf
    clear hf ct
    go_enter Tryz.func64, Tryz.ntmps64
    go_wp2_with fail
    refine (HT.out _).mono ?_; rintro en w' ⟨rfl, hw'⟩
    subst hw'
    go_wp2_with fail
    go_ret
    exact ⟨by rw [Hf.out]; rfl, Hbox.out _⟩
  obtain rfl : t = ⟨#[]⟩ := empty_text ct
  clear ct
  by_cases cb : bitsN r = 0
  case neg =>
    have eb : (((bitsN r : Nat) : Int) != 0) = true := by rw [bne_iff_ne]; omega
    have hf : headB 3 ⟨#[]⟩ z r f n = false := head_no fun h => h.2.1.elim cb (by decide)
    have Hf := Lib.hid hf
    clear hf cb
    go_enter Tryz.func64, Tryz.ntmps64
    go_wp2_with fail
    refine (HT.out _).mono ?_; rintro en w' ⟨rfl, hw'⟩
    subst hw'
    go_wp2_with fail
    refine (HB.out _).mono ?_; rintro en w' ⟨rfl, hw'⟩
    subst hw'
    go_wp2_with fail
    go_ret
    exact ⟨by rw [Hf.out]; rfl, Hbox.out _⟩
  have eb : (((bitsN r : Nat) : Int) != 0) = false := by rw [cb]; rfl
  by_cases cf : f = false
  case neg =>
    have ef : f = true := by simpa using cf
    have hf : headB 3 ⟨#[]⟩ z r f n = false := head_no fun h => h.2.2.1.elim cf (by decide)
    subst ef
    have Hf := Lib.hid hf
    clear hf cf
    go_enter Tryz.func64, Tryz.ntmps64
    go_wp2_with fail
    refine (HT.out _).mono ?_; rintro en w' ⟨rfl, hw'⟩
    subst hw'
    go_wp2_with fail
    refine (HB.out _).mono ?_; rintro en w' ⟨rfl, hw'⟩
    subst hw'
    go_wp2_with fail
    go_ret
    exact ⟨by rw [Hf.out]; rfl, Hbox.out _⟩
  subst cf
  by_cases cn : n = 0
  case neg =>
    have hn0 : 0 < n := by omega
    have hf : headB 3 ⟨#[]⟩ z r false n = false := head_no fun h => cn (list_noneE h.2.2.2.2 (by decide))
    have Hf := Lib.hid hf
    clear hf cn
    go_enter Tryz.func64, Tryz.ntmps64
    go_wp2_with fail
    refine (HT.out _).mono ?_; rintro en w' ⟨rfl, hw'⟩
    subst hw'
    go_wp2_with fail
    refine (HB.out _).mono ?_; rintro en w' ⟨rfl, hw'⟩
    subst hw'
    go_wp2_with fail
    refine (HL.out _).mono ?_; rintro en w' ⟨rfl, hw'⟩
    subst hw'
    go_wp2_with fail
    go_ret
    exact ⟨by rw [Hf.out]; rfl, Hbox.out _⟩
  subst cn
  have hy : headB 3 ⟨#[]⟩ z r false 0 = true := by
    unfold headB ownB
    rw [cb]
    simp [textB, listB]
  have Hy := Lib.hid hy
  clear hy
  go_enter Tryz.func64, Tryz.ntmps64
  go_wp2_with fail
  refine (HT.out _).mono ?_; rintro en w' ⟨rfl, hw'⟩
  subst hw'
  go_wp2_with fail
  refine (HB.out _).mono ?_; rintro en w' ⟨rfl, hw'⟩
  subst hw'
  go_wp2_with fail
  refine (HL.out _).mono ?_; rintro en w' ⟨rfl, hw'⟩
  subst hw'
  go_wp2_with fail
  go_ret
  exact ⟨by rw [Hy.out]; rfl, Hbox.out _⟩
set_option maxHeartbeats 8000000 in
set_option maxRecDepth 100000 in
theorem own_5 (t : ByteArray) (z : Int) (r : Nat) (f : Bool) (a : Option Addr) (c n : Nat) (K : Nat → Val) (w : World) (hr : r < 18446744073709551616) (ht : t.size ≤ 9223372036854775807) (_hn : n ≤ 4000000000000) :
    Calls Tryz.prog 64 #[(Val.mk 5 t z r f a c n K).agg] w (Owned 5 t z r f n w) := by
  have HT : Hid (∀ w : World, Calls Tryz.prog 92 #[.int .i64 5] w fun e w' => e = .returned (.bool false) ∧ w = w') := Lib.hid fun w => rtexts_calls 5 w
  have HL : Hid (∀ w : World, Calls Tryz.prog 65 #[.int .i64 5] w fun e w' => e = .returned (.bool true) ∧ w = w') := Lib.hid fun w => rlists_calls 5 w
  have HB := Lib.hid (refBits_calls r hr)
  have hbox := fun (o : Obj) => ((Below.refl w.heap.size w).alloc (Nat.le_refl _) o)
  have Hbox := Lib.hid hbox
  clear hbox
  unfold Val.agg
  by_cases ct : t.toList.isEmpty = true
  case neg =>
    have et : t.toList.isEmpty = false := by simpa using ct
    have hf : headB 5 t z r f n = false := head_no fun h => ct (text_noneE h.2.2.2.1 (by decide))
    have Hf := Lib.hid hf
    clear hf ct
    go_enter Tryz.func64, Tryz.ntmps64
    go_wp2_with fail
    refine (HT.out _).mono ?_; rintro en w' ⟨rfl, hw'⟩
    subst hw'
    go_wp2_with fail
    go_ret
    exact ⟨by rw [Hf.out]; rfl, Hbox.out _⟩
  obtain rfl : t = ⟨#[]⟩ := empty_text ct
  clear ct
  by_cases cz : z = 0
  case neg =>
    have ez : (z != 0) = true := by simpa using cz
    have hf : headB 5 ⟨#[]⟩ z r f n = false := head_no fun h => h.1.elim cz (by decide)
    have Hf := Lib.hid hf
    clear hf cz
    go_enter Tryz.func64, Tryz.ntmps64
    go_wp2_with fail
    refine (HT.out _).mono ?_; rintro en w' ⟨rfl, hw'⟩
    subst hw'
    go_wp2_with fail
    go_ret
    exact ⟨by rw [Hf.out]; rfl, Hbox.out _⟩
  subst cz
  by_cases cb : bitsN r = 0
  case neg =>
    have eb : (((bitsN r : Nat) : Int) != 0) = true := by rw [bne_iff_ne]; omega
    have hf : headB 5 ⟨#[]⟩ 0 r f n = false := head_no fun h => h.2.1.elim cb (by decide)
    have Hf := Lib.hid hf
    clear hf cb
    go_enter Tryz.func64, Tryz.ntmps64
    go_wp2_with fail
    refine (HT.out _).mono ?_; rintro en w' ⟨rfl, hw'⟩
    subst hw'
    go_wp2_with fail
    refine (HB.out _).mono ?_; rintro en w' ⟨rfl, hw'⟩
    subst hw'
    go_wp2_with fail
    go_ret
    exact ⟨by rw [Hf.out]; rfl, Hbox.out _⟩
  have eb : (((bitsN r : Nat) : Int) != 0) = false := by rw [cb]; rfl
  by_cases cf : f = false
  case neg =>
    have ef : f = true := by simpa using cf
    have hf : headB 5 ⟨#[]⟩ 0 r f n = false := head_no fun h => h.2.2.1.elim cf (by decide)
    subst ef
    have Hf := Lib.hid hf
    clear hf cf
    go_enter Tryz.func64, Tryz.ntmps64
    go_wp2_with fail
    refine (HT.out _).mono ?_; rintro en w' ⟨rfl, hw'⟩
    subst hw'
    go_wp2_with fail
    refine (HB.out _).mono ?_; rintro en w' ⟨rfl, hw'⟩
    subst hw'
    go_wp2_with fail
    go_ret
    exact ⟨by rw [Hf.out]; rfl, Hbox.out _⟩
  subst cf
  have hy : headB 5 ⟨#[]⟩ 0 r false n = true := by
    unfold headB ownB
    rw [cb]
    simp [textB, listB]
  have Hy := Lib.hid hy
  clear hy
  go_enter Tryz.func64, Tryz.ntmps64
  go_wp2_with fail
  refine (HT.out _).mono ?_; rintro en w' ⟨rfl, hw'⟩
  subst hw'
  go_wp2_with fail
  refine (HB.out _).mono ?_; rintro en w' ⟨rfl, hw'⟩
  subst hw'
  go_wp2_with fail
  refine (HL.out _).mono ?_; rintro en w' ⟨rfl, hw'⟩
  subst hw'
  go_wp2_with fail
  go_ret
  exact ⟨by rw [Hy.out]; rfl, Hbox.out _⟩
set_option maxHeartbeats 8000000 in
set_option maxRecDepth 100000 in
theorem own_6 (t : ByteArray) (z : Int) (r : Nat) (f : Bool) (a : Option Addr) (c n : Nat) (K : Nat → Val) (w : World) (hr : r < 18446744073709551616) (ht : t.size ≤ 9223372036854775807) (_hn : n ≤ 4000000000000) :
    Calls Tryz.prog 64 #[(Val.mk 6 t z r f a c n K).agg] w (Owned 6 t z r f n w) := by
  have HT : Hid (∀ w : World, Calls Tryz.prog 92 #[.int .i64 6] w fun e w' => e = .returned (.bool false) ∧ w = w') := Lib.hid fun w => rtexts_calls 6 w
  have HL : Hid (∀ w : World, Calls Tryz.prog 65 #[.int .i64 6] w fun e w' => e = .returned (.bool false) ∧ w = w') := Lib.hid fun w => rlists_calls 6 w
  have HB := Lib.hid (refBits_calls r hr)
  have hbox := fun (o : Obj) => ((Below.refl w.heap.size w).alloc (Nat.le_refl _) o)
  have Hbox := Lib.hid hbox
  clear hbox
  unfold Val.agg
  by_cases ct : t.toList.isEmpty = true
  case neg =>
    have et : t.toList.isEmpty = false := by simpa using ct
    have hf : headB 6 t z r f n = false := head_no fun h => ct (text_noneE h.2.2.2.1 (by decide))
    have Hf := Lib.hid hf
    clear hf ct
    go_enter Tryz.func64, Tryz.ntmps64
    go_wp2_with fail
    refine (HT.out _).mono ?_; rintro en w' ⟨rfl, hw'⟩
    subst hw'
    go_wp2_with fail
    go_ret
    exact ⟨by rw [Hf.out]; rfl, Hbox.out _⟩
  obtain rfl : t = ⟨#[]⟩ := empty_text ct
  clear ct
  by_cases cz : z = 0
  case neg =>
    have ez : (z != 0) = true := by simpa using cz
    have hf : headB 6 ⟨#[]⟩ z r f n = false := head_no fun h => h.1.elim cz (by decide)
    have Hf := Lib.hid hf
    clear hf cz
    go_enter Tryz.func64, Tryz.ntmps64
    go_wp2_with fail
    refine (HT.out _).mono ?_; rintro en w' ⟨rfl, hw'⟩
    subst hw'
    go_wp2_with fail
    go_ret
    exact ⟨by rw [Hf.out]; rfl, Hbox.out _⟩
  subst cz
  by_cases cb : bitsN r = 0
  case neg =>
    have eb : (((bitsN r : Nat) : Int) != 0) = true := by rw [bne_iff_ne]; omega
    have hf : headB 6 ⟨#[]⟩ 0 r f n = false := head_no fun h => h.2.1.elim cb (by decide)
    have Hf := Lib.hid hf
    clear hf cb
    go_enter Tryz.func64, Tryz.ntmps64
    go_wp2_with fail
    refine (HT.out _).mono ?_; rintro en w' ⟨rfl, hw'⟩
    subst hw'
    go_wp2_with fail
    refine (HB.out _).mono ?_; rintro en w' ⟨rfl, hw'⟩
    subst hw'
    go_wp2_with fail
    go_ret
    exact ⟨by rw [Hf.out]; rfl, Hbox.out _⟩
  have eb : (((bitsN r : Nat) : Int) != 0) = false := by rw [cb]; rfl
  by_cases cf : f = false
  case neg =>
    have ef : f = true := by simpa using cf
    have hf : headB 6 ⟨#[]⟩ 0 r f n = false := head_no fun h => h.2.2.1.elim cf (by decide)
    subst ef
    have Hf := Lib.hid hf
    clear hf cf
    go_enter Tryz.func64, Tryz.ntmps64
    go_wp2_with fail
    refine (HT.out _).mono ?_; rintro en w' ⟨rfl, hw'⟩
    subst hw'
    go_wp2_with fail
    refine (HB.out _).mono ?_; rintro en w' ⟨rfl, hw'⟩
    subst hw'
    go_wp2_with fail
    go_ret
    exact ⟨by rw [Hf.out]; rfl, Hbox.out _⟩
  subst cf
  by_cases cn : n = 0
  case neg =>
    have hn0 : 0 < n := by omega
    have hf : headB 6 ⟨#[]⟩ 0 r false n = false := head_no fun h => cn (list_noneE h.2.2.2.2 (by decide))
    have Hf := Lib.hid hf
    clear hf cn
    go_enter Tryz.func64, Tryz.ntmps64
    go_wp2_with fail
    refine (HT.out _).mono ?_; rintro en w' ⟨rfl, hw'⟩
    subst hw'
    go_wp2_with fail
    refine (HB.out _).mono ?_; rintro en w' ⟨rfl, hw'⟩
    subst hw'
    go_wp2_with fail
    refine (HL.out _).mono ?_; rintro en w' ⟨rfl, hw'⟩
    subst hw'
    go_wp2_with fail
    go_ret
    exact ⟨by rw [Hf.out]; rfl, Hbox.out _⟩
  subst cn
  have hy : headB 6 ⟨#[]⟩ 0 r false 0 = true := by
    unfold headB ownB
    rw [cb]
    simp [textB, listB]
  have Hy := Lib.hid hy
  clear hy
  go_enter Tryz.func64, Tryz.ntmps64
  go_wp2_with fail
  refine (HT.out _).mono ?_; rintro en w' ⟨rfl, hw'⟩
  subst hw'
  go_wp2_with fail
  refine (HB.out _).mono ?_; rintro en w' ⟨rfl, hw'⟩
  subst hw'
  go_wp2_with fail
  refine (HL.out _).mono ?_; rintro en w' ⟨rfl, hw'⟩
  subst hw'
  go_wp2_with fail
  go_ret
  exact ⟨by rw [Hy.out]; rfl, Hbox.out _⟩
set_option maxHeartbeats 8000000 in
set_option maxRecDepth 100000 in
theorem own_7 (t : ByteArray) (z : Int) (r : Nat) (f : Bool) (a : Option Addr) (c n : Nat) (K : Nat → Val) (w : World) (hr : r < 18446744073709551616) (ht : t.size ≤ 9223372036854775807) (_hn : n ≤ 4000000000000) :
    Calls Tryz.prog 64 #[(Val.mk 7 t z r f a c n K).agg] w (Owned 7 t z r f n w) := by
  have HT : Hid (∀ w : World, Calls Tryz.prog 92 #[.int .i64 7] w fun e w' => e = .returned (.bool false) ∧ w = w') := Lib.hid fun w => rtexts_calls 7 w
  have HL : Hid (∀ w : World, Calls Tryz.prog 65 #[.int .i64 7] w fun e w' => e = .returned (.bool false) ∧ w = w') := Lib.hid fun w => rlists_calls 7 w
  have HB := Lib.hid (refBits_calls r hr)
  have hbox := fun (o : Obj) => ((Below.refl w.heap.size w).alloc (Nat.le_refl _) o)
  have Hbox := Lib.hid hbox
  clear hbox
  unfold Val.agg
  by_cases ct : t.toList.isEmpty = true
  case neg =>
    have et : t.toList.isEmpty = false := by simpa using ct
    have hf : headB 7 t z r f n = false := head_no fun h => ct (text_noneE h.2.2.2.1 (by decide))
    have Hf := Lib.hid hf
    clear hf ct
    go_enter Tryz.func64, Tryz.ntmps64
    go_wp2_with fail
    refine (HT.out _).mono ?_; rintro en w' ⟨rfl, hw'⟩
    subst hw'
    go_wp2_with fail
    go_ret
    exact ⟨by rw [Hf.out]; rfl, Hbox.out _⟩
  obtain rfl : t = ⟨#[]⟩ := empty_text ct
  clear ct
  by_cases cz : z = 0
  case neg =>
    have ez : (z != 0) = true := by simpa using cz
    have hf : headB 7 ⟨#[]⟩ z r f n = false := head_no fun h => h.1.elim cz (by decide)
    have Hf := Lib.hid hf
    clear hf cz
    go_enter Tryz.func64, Tryz.ntmps64
    go_wp2_with fail
    refine (HT.out _).mono ?_; rintro en w' ⟨rfl, hw'⟩
    subst hw'
    go_wp2_with fail
    go_ret
    exact ⟨by rw [Hf.out]; rfl, Hbox.out _⟩
  subst cz
  by_cases cf : f = false
  case neg =>
    have ef : f = true := by simpa using cf
    have hf : headB 7 ⟨#[]⟩ 0 r f n = false := head_no fun h => h.2.2.1.elim cf (by decide)
    subst ef
    have Hf := Lib.hid hf
    clear hf cf
    go_enter Tryz.func64, Tryz.ntmps64
    go_wp2_with fail
    refine (HT.out _).mono ?_; rintro en w' ⟨rfl, hw'⟩
    subst hw'
    go_wp2_with fail
    go_ret
    exact ⟨by rw [Hf.out]; rfl, Hbox.out _⟩
  subst cf
  by_cases cn : n = 0
  case neg =>
    have hn0 : 0 < n := by omega
    have hf : headB 7 ⟨#[]⟩ 0 r false n = false := head_no fun h => cn (list_noneE h.2.2.2.2 (by decide))
    have Hf := Lib.hid hf
    clear hf cn
    go_enter Tryz.func64, Tryz.ntmps64
    go_wp2_with fail
    refine (HT.out _).mono ?_; rintro en w' ⟨rfl, hw'⟩
    subst hw'
    go_wp2_with fail
    refine (HL.out _).mono ?_; rintro en w' ⟨rfl, hw'⟩
    subst hw'
    go_wp2_with fail
    go_ret
    exact ⟨by rw [Hf.out]; rfl, Hbox.out _⟩
  subst cn
  have hy : headB 7 ⟨#[]⟩ 0 r false 0 = true := by
    unfold headB ownB
    simp [textB, listB]
  have Hy := Lib.hid hy
  clear hy
  go_enter Tryz.func64, Tryz.ntmps64
  go_wp2_with fail
  refine (HT.out _).mono ?_; rintro en w' ⟨rfl, hw'⟩
  subst hw'
  go_wp2_with fail
  refine (HL.out _).mono ?_; rintro en w' ⟨rfl, hw'⟩
  subst hw'
  go_wp2_with fail
  go_ret
  exact ⟨by rw [Hy.out]; rfl, Hbox.out _⟩
set_option maxHeartbeats 8000000 in
set_option maxRecDepth 100000 in
theorem own_8 (t : ByteArray) (z : Int) (r : Nat) (f : Bool) (a : Option Addr) (c n : Nat) (K : Nat → Val) (w : World) (hr : r < 18446744073709551616) (ht : t.size ≤ 9223372036854775807) (_hn : n ≤ 4000000000000) :
    Calls Tryz.prog 64 #[(Val.mk 8 t z r f a c n K).agg] w (Owned 8 t z r f n w) := by
  have HT : Hid (∀ w : World, Calls Tryz.prog 92 #[.int .i64 8] w fun e w' => e = .returned (.bool false) ∧ w = w') := Lib.hid fun w => rtexts_calls 8 w
  have HL : Hid (∀ w : World, Calls Tryz.prog 65 #[.int .i64 8] w fun e w' => e = .returned (.bool false) ∧ w = w') := Lib.hid fun w => rlists_calls 8 w
  have HB := Lib.hid (refBits_calls r hr)
  have hbox := fun (o : Obj) => ((Below.refl w.heap.size w).alloc (Nat.le_refl _) o)
  have Hbox := Lib.hid hbox
  clear hbox
  unfold Val.agg
  by_cases ct : t.toList.isEmpty = true
  case neg =>
    have et : t.toList.isEmpty = false := by simpa using ct
    have hf : headB 8 t z r f n = false := head_no fun h => ct (text_noneE h.2.2.2.1 (by decide))
    have Hf := Lib.hid hf
    clear hf ct
    go_enter Tryz.func64, Tryz.ntmps64
    go_wp2_with fail
    refine (HT.out _).mono ?_; rintro en w' ⟨rfl, hw'⟩
    subst hw'
    go_wp2_with fail
    go_ret
    exact ⟨by rw [Hf.out]; rfl, Hbox.out _⟩
  obtain rfl : t = ⟨#[]⟩ := empty_text ct
  clear ct
  by_cases cz : z = 0
  case neg =>
    have ez : (z != 0) = true := by simpa using cz
    have hf : headB 8 ⟨#[]⟩ z r f n = false := head_no fun h => h.1.elim cz (by decide)
    have Hf := Lib.hid hf
    clear hf cz
    go_enter Tryz.func64, Tryz.ntmps64
    go_wp2_with fail
    refine (HT.out _).mono ?_; rintro en w' ⟨rfl, hw'⟩
    subst hw'
    go_wp2_with fail
    go_ret
    exact ⟨by rw [Hf.out]; rfl, Hbox.out _⟩
  subst cz
  by_cases cb : bitsN r = 0
  case neg =>
    have eb : (((bitsN r : Nat) : Int) != 0) = true := by rw [bne_iff_ne]; omega
    have hf : headB 8 ⟨#[]⟩ 0 r f n = false := head_no fun h => h.2.1.elim cb (by decide)
    have Hf := Lib.hid hf
    clear hf cb
    go_enter Tryz.func64, Tryz.ntmps64
    go_wp2_with fail
    refine (HT.out _).mono ?_; rintro en w' ⟨rfl, hw'⟩
    subst hw'
    go_wp2_with fail
    refine (HB.out _).mono ?_; rintro en w' ⟨rfl, hw'⟩
    subst hw'
    go_wp2_with fail
    go_ret
    exact ⟨by rw [Hf.out]; rfl, Hbox.out _⟩
  have eb : (((bitsN r : Nat) : Int) != 0) = false := by rw [cb]; rfl
  by_cases cn : n = 0
  case neg =>
    have hn0 : 0 < n := by omega
    have hf : headB 8 ⟨#[]⟩ 0 r f n = false := head_no fun h => cn (list_noneE h.2.2.2.2 (by decide))
    have Hf := Lib.hid hf
    clear hf cn
    go_enter Tryz.func64, Tryz.ntmps64
    go_wp2_with fail
    refine (HT.out _).mono ?_; rintro en w' ⟨rfl, hw'⟩
    subst hw'
    go_wp2_with fail
    refine (HB.out _).mono ?_; rintro en w' ⟨rfl, hw'⟩
    subst hw'
    go_wp2_with fail
    refine (HL.out _).mono ?_; rintro en w' ⟨rfl, hw'⟩
    subst hw'
    go_wp2_with fail
    go_ret
    exact ⟨by rw [Hf.out]; rfl, Hbox.out _⟩
  subst cn
  have hy : headB 8 ⟨#[]⟩ 0 r f 0 = true := by
    unfold headB ownB
    rw [cb]
    simp [textB, listB]
  have Hy := Lib.hid hy
  clear hy
  go_enter Tryz.func64, Tryz.ntmps64
  go_wp2_with fail
  refine (HT.out _).mono ?_; rintro en w' ⟨rfl, hw'⟩
  subst hw'
  go_wp2_with fail
  refine (HB.out _).mono ?_; rintro en w' ⟨rfl, hw'⟩
  subst hw'
  go_wp2_with fail
  refine (HL.out _).mono ?_; rintro en w' ⟨rfl, hw'⟩
  subst hw'
  go_wp2_with fail
  go_ret
  exact ⟨by rw [Hy.out]; rfl, Hbox.out _⟩
set_option maxHeartbeats 8000000 in
set_option maxRecDepth 100000 in
theorem own_13 (t : ByteArray) (z : Int) (r : Nat) (f : Bool) (a : Option Addr) (c n : Nat) (K : Nat → Val) (w : World) (hr : r < 18446744073709551616) (ht : t.size ≤ 9223372036854775807) (_hn : n ≤ 4000000000000) :
    Calls Tryz.prog 64 #[(Val.mk 13 t z r f a c n K).agg] w (Owned 13 t z r f n w) := by
  have HT : Hid (∀ w : World, Calls Tryz.prog 92 #[.int .i64 13] w fun e w' => e = .returned (.bool false) ∧ w = w') := Lib.hid fun w => rtexts_calls 13 w
  have HL : Hid (∀ w : World, Calls Tryz.prog 65 #[.int .i64 13] w fun e w' => e = .returned (.bool true) ∧ w = w') := Lib.hid fun w => rlists_calls 13 w
  have HB := Lib.hid (refBits_calls r hr)
  have hbox := fun (o : Obj) => ((Below.refl w.heap.size w).alloc (Nat.le_refl _) o)
  have Hbox := Lib.hid hbox
  clear hbox
  unfold Val.agg
  by_cases ct : t.toList.isEmpty = true
  case neg =>
    have et : t.toList.isEmpty = false := by simpa using ct
    have hf : headB 13 t z r f n = false := head_no fun h => ct (text_noneE h.2.2.2.1 (by decide))
    have Hf := Lib.hid hf
    clear hf ct
    go_enter Tryz.func64, Tryz.ntmps64
    go_wp2_with fail
    refine (HT.out _).mono ?_; rintro en w' ⟨rfl, hw'⟩
    subst hw'
    go_wp2_with fail
    go_ret
    exact ⟨by rw [Hf.out]; rfl, Hbox.out _⟩
  obtain rfl : t = ⟨#[]⟩ := empty_text ct
  clear ct
  by_cases cz : z = 0
  case neg =>
    have ez : (z != 0) = true := by simpa using cz
    have hf : headB 13 ⟨#[]⟩ z r f n = false := head_no fun h => h.1.elim cz (by decide)
    have Hf := Lib.hid hf
    clear hf cz
    go_enter Tryz.func64, Tryz.ntmps64
    go_wp2_with fail
    refine (HT.out _).mono ?_; rintro en w' ⟨rfl, hw'⟩
    subst hw'
    go_wp2_with fail
    go_ret
    exact ⟨by rw [Hf.out]; rfl, Hbox.out _⟩
  subst cz
  by_cases cb : bitsN r = 0
  case neg =>
    have eb : (((bitsN r : Nat) : Int) != 0) = true := by rw [bne_iff_ne]; omega
    have hf : headB 13 ⟨#[]⟩ 0 r f n = false := head_no fun h => h.2.1.elim cb (by decide)
    have Hf := Lib.hid hf
    clear hf cb
    go_enter Tryz.func64, Tryz.ntmps64
    go_wp2_with fail
    refine (HT.out _).mono ?_; rintro en w' ⟨rfl, hw'⟩
    subst hw'
    go_wp2_with fail
    refine (HB.out _).mono ?_; rintro en w' ⟨rfl, hw'⟩
    subst hw'
    go_wp2_with fail
    go_ret
    exact ⟨by rw [Hf.out]; rfl, Hbox.out _⟩
  have eb : (((bitsN r : Nat) : Int) != 0) = false := by rw [cb]; rfl
  by_cases cf : f = false
  case neg =>
    have ef : f = true := by simpa using cf
    have hf : headB 13 ⟨#[]⟩ 0 r f n = false := head_no fun h => h.2.2.1.elim cf (by decide)
    subst ef
    have Hf := Lib.hid hf
    clear hf cf
    go_enter Tryz.func64, Tryz.ntmps64
    go_wp2_with fail
    refine (HT.out _).mono ?_; rintro en w' ⟨rfl, hw'⟩
    subst hw'
    go_wp2_with fail
    refine (HB.out _).mono ?_; rintro en w' ⟨rfl, hw'⟩
    subst hw'
    go_wp2_with fail
    go_ret
    exact ⟨by rw [Hf.out]; rfl, Hbox.out _⟩
  subst cf
  have hy : headB 13 ⟨#[]⟩ 0 r false n = true := by
    unfold headB ownB
    rw [cb]
    simp [textB, listB]
  have Hy := Lib.hid hy
  clear hy
  go_enter Tryz.func64, Tryz.ntmps64
  go_wp2_with fail
  refine (HT.out _).mono ?_; rintro en w' ⟨rfl, hw'⟩
  subst hw'
  go_wp2_with fail
  refine (HB.out _).mono ?_; rintro en w' ⟨rfl, hw'⟩
  subst hw'
  go_wp2_with fail
  refine (HL.out _).mono ?_; rintro en w' ⟨rfl, hw'⟩
  subst hw'
  go_wp2_with fail
  go_ret
  exact ⟨by rw [Hy.out]; rfl, Hbox.out _⟩
end Go.Proofs.YtpmlhmdmnbmnnaaGreatDoor
