/- Package value's Check, and textFits at the kinds whose texts are not looked into. Conditions: as isRight's. -/
import Derived.Test.YtpmlhmdmnbmnnaaGreatDoorVcM
import Derived.Test.YtpmlhmdmnbmnnaaGreatDoorLays
import Derived.Test.YtpmlhmdmnbmnnaaGreatDoorFb
import Derived.Laws.RangeAny
import Derived.Laws.Runes
import Derived.Lib.IndexAny
import Derived.Deep.LoopGhost
import Derived.Shelf.Strings.SlTrimAscii
import Derived.Shelf.Strings.IndexAnyAll
namespace Go.Proofs.YtpmlhmdmnbmnnaaGreatDoor
open Go.ChangeShapes Go.WideShapes Go.ChangeAt Go.RowKit

def checkN (v : Val) : Int := if good v 8 && decide (v.count ≤ 1000) then 0 else 31
def Checked (v : Val) (w : World) (e : Ending) (w' : World) : Prop := e = .returned (.int .i64 (checkN v)) ∧ Below w.heap.size w w'

set_option maxHeartbeats 2000000 in
theorem check_calls (v : Val) (S : Nat → Prop) (w : World) (hS : ∀ b, S b → b < w.heap.size) (hl : Lies S w v) (hf : v.fits) :
    Calls Tryz.prog 103 #[v.agg] w (Checked v w) := by
  cases v with
  | no => exact hl.elim
  | mk k t z r f a c n K =>
    have hW : Below w.heap.size w ((w.alloc (.cells #[.int .i64 k, .string t, .int .i64 z, .float .f64 r, .bool f, .slice a n c] 36)).alloc (.cells #[.int .i64 1000] 3)) :=
      ((Below.refl _ _).alloc (Nat.le_refl _) _).alloc (by simp) _
    have ha : At ((w.alloc (.cells #[.int .i64 k, .string t, .int .i64 z, .float .f64 r, .bool f, .slice a n c] 36)).alloc (.cells #[.int .i64 1000] 3)) w.heap.size 0 (.mk k t z r f a c n K) := by
      refine ⟨?_, ?_, ?_, ?_, ?_, ?_⟩ <;> go_simp
    have hcall := isRight_calls (.mk k t z r f a c n K) S _ w.heap.size 0 (w.heap.size + 1) 1000 8 (fun b hb => by have := hS b hb; omega) (hl.below hW hS) hf (by omega) ha (by go_simp) (by go_simp) (by simp) (by omega) (by omega)
    have Hcall := Lib.hid hcall
    have HW := Lib.hid hW
    have Hc : Hid (checkN (.mk k t z r f a c n K) = if good (.mk k t z r f a c n K) 8 && decide ((Val.mk k t z r f a c n K).count ≤ 1000) then 0 else 31) := Lib.hid rfl
    clear hl hf ha hcall hW hS
    unfold Val.agg
    go_enter Tryz.func103, Tryz.ntmps103
    go_wp2_with fail
    refine Hcall.out.mono ?_; rintro en w3 ⟨x, rfl, hb3, -, -, -, -⟩
    have Hb := Lib.hid (HW.out.trans (hb3.mono (by omega)))
    clear hb3
    cases hg : (good (.mk k t z r f a c n K) 8 && decide ((Val.mk k t z r f a c n K).count ≤ 1000)) with
    | true =>
      have Hg := Lib.hid hg
      clear hg
      go_wp2_with fail
      go_ret
      exact ⟨by rw [Hc.out, Hg.out]; rfl, Hb.out⟩
    | false =>
      have Hg := Lib.hid hg
      clear hg
      go_wp2_with fail
      go_ret
      exact ⟨by rw [Hc.out, Hg.out]; rfl, Hb.out⟩

theorem long_no {t : ByteArray} (h : ¬ t.size ≤ 4096) (k : Int) : textB k t.data.toList = false := by
  have : t.data.toList.length = t.size := Array.length_toList
  unfold textB
  rw [this, decide_eq_false h]; rfl
theorem short_yes {t : ByteArray} (h : t.size ≤ 4096) (k : Int) : textB k t.data.toList = (if k = 1 ∨ k = 2 then !(t.data.toList.any fun b => b == 13 || b == 10) else if k = 4 ∨ k = 10 then true else if k = 9 then bigB t.data.toList
    else if k = 11 then decide (4 ≤ t.data.toList.length) && t.data.toList.getD 3 0 == 58 else if 3 ≤ k ∧ k ≤ 14 then t.data.toList.isEmpty else false) := by
  have : t.data.toList.length = t.size := Array.length_toList
  unfold textB
  rw [this, decide_eq_true h]; rfl
theorem fits_long (k : Int) (t : ByteArray) (h : ¬ t.size ≤ 4096) (hm : t.size ≤ 9223372036854775807) : Fits k t := by
  intro w
  rw [long_no h]
  replace h : 4096 < t.size := by omega
  go_enter Tryz.func188, Tryz.ntmps188
  go_wp2_with fail
  go_ret
  exact ⟨rfl, Below.refl _ _⟩
theorem fits_bulk (k : Int) (t : ByteArray) (hk : k = 4 ∨ k = 10) (hm : t.size ≤ 9223372036854775807) : Fits k t := by
  by_cases h : t.size ≤ 4096
  case neg => exact fits_long k t h hm
  intro w
  rw [short_yes h]
  rcases hk with rfl | rfl
  all_goals
    go_enter Tryz.func188, Tryz.ntmps188
    go_wp2_with fail
    go_ret
    exact ⟨rfl, Below.refl _ _⟩
theorem fits_none (k : Int) (t : ByteArray) (hk : k = 3 ∨ k = 5 ∨ k = 6 ∨ k = 7 ∨ k = 8 ∨ k = 12 ∨ k = 13 ∨ k = 14) (hm : t.size ≤ 9223372036854775807) : Fits k t := by
  by_cases h : t.size ≤ 4096
  case neg => exact fits_long k t h hm
  intro w
  rw [short_yes h]
  have e : t.toList = t.data.toList := ByteArray.toList_eq t
  cases he : t.data.toList.isEmpty with
  | true =>
    have h1 : t.toList = [] := by rw [e]; simpa using he
    have h2 : (!t.toList.isEmpty) = false := by rw [e, he]; rfl
    clear e he
    rcases hk with rfl | rfl | rfl | rfl | rfl | rfl | rfl | rfl
    all_goals
      go_enter Tryz.func188, Tryz.ntmps188
      go_wp2_with fail
      go_ret
      exact ⟨rfl, Below.refl _ _⟩
  | false =>
    have h1 : t.toList.isEmpty = false := by rw [e, he]
    clear e he
    rcases hk with rfl | rfl | rfl | rfl | rfl | rfl | rfl | rfl
    all_goals
      go_enter Tryz.func188, Tryz.ntmps188
      go_wp2_with fail
      go_ret
      exact ⟨rfl, Below.refl _ _⟩
theorem fits_other (k : Int) (t : ByteArray) (hk : k < 1 ∨ 14 < k) (hm : t.size ≤ 9223372036854775807) : Fits k t := by
  by_cases h : t.size ≤ 4096
  case neg => exact fits_long k t h hm
  intro w
  have e1 : (k == 1) = false := by rw [beq_eq_false_iff_ne]; omega
  have e2 : (k == 2) = false := by rw [beq_eq_false_iff_ne]; omega
  have e3 : (k == 3) = false := by rw [beq_eq_false_iff_ne]; omega
  have e4 : (k == 4) = false := by rw [beq_eq_false_iff_ne]; omega
  have e5 : (k == 5) = false := by rw [beq_eq_false_iff_ne]; omega
  have e6 : (k == 6) = false := by rw [beq_eq_false_iff_ne]; omega
  have e7 : (k == 7) = false := by rw [beq_eq_false_iff_ne]; omega
  have e8 : (k == 8) = false := by rw [beq_eq_false_iff_ne]; omega
  have e9 : (k == 9) = false := by rw [beq_eq_false_iff_ne]; omega
  have e10 : (k == 10) = false := by rw [beq_eq_false_iff_ne]; omega
  have e11 : (k == 11) = false := by rw [beq_eq_false_iff_ne]; omega
  have e12 : (k == 12) = false := by rw [beq_eq_false_iff_ne]; omega
  have e13 : (k == 13) = false := by rw [beq_eq_false_iff_ne]; omega
  have e14 : (k == 14) = false := by rw [beq_eq_false_iff_ne]; omega
  rw [short_yes h, if_neg (by omega), if_neg (by omega), if_neg (by omega), if_neg (by omega), if_neg (by omega)]
  clear hk
  go_enter Tryz.func188, Tryz.ntmps188
  go_wp2_with fail
  go_ret
  exact ⟨rfl, Below.refl _ _⟩
end Go.Proofs.YtpmlhmdmnbmnnaaGreatDoor
/- strings.IndexRune of CR LF at a rune of 128 and more, strings.IndexAny and ContainsAny of CR LF at EVERY text. No condition but the text's bound. -/
namespace Go.Proofs.YtpmlhmdmnbmnnaaGreatDoor
open Go.ChangeShapes Go.WideShapes Go.ChangeAt Go.RowKit

theorem below_iter (w : World) (s : ByteArray) (p : Nat) : Below w.heap.size w (w.iter s p) := (Below.refl _ _).alloc (Nat.le_refl _) _

set_option maxHeartbeats 4000000 in
set_option maxRecDepth 1000000 in
theorem indexRune_err (w : World) : Calls Tryz.prog 235 #[.string ⟨#[13, 10]⟩, .int .i32 65533] w fun e w' => e = .returned (.int .i64 (-1)) ∧ Below w.heap.size w w' := by
  have n0 := fun ty => run_next_ascii (P := Tryz.prog) w ⟨#[13, 10]⟩ 0 ty (by decide) (by decide)
  have n1 := fun ty => run_next_ascii (P := Tryz.prog) w ⟨#[13, 10]⟩ 1 ty (by decide) (by decide)
  have n2 := fun ty => run_next_end (P := Tryz.prog) w ⟨#[13, 10]⟩ 2 ty (by decide)
  go_enter Tryz.func235, Tryz.ntmps235
  go_wp2_with fail
  refine wp_loop_rounds 3 ?_
  rw [rounds_succ]
  go_wp2_with fail
  rw [rounds_succ]
  go_wp2_with fail
  rw [rounds_succ]
  go_wp2_with fail
  go_ret
  exact ⟨rfl, below_iter _ _ _⟩

set_option maxHeartbeats 2000000 in
set_option maxRecDepth 1000000 in
theorem validRune_calls (c : Int) (h0 : 0 ≤ c) (h1 : c ≤ 2147483647) (w : World) : Calls Tryz.prog 210 #[.int .i32 c] w fun e w' => e = .returned (.bool (validRune c)) ∧ w = w' := by
  unfold validRune
  by_cases a : c < 55296
  · rw [decide_eq_true (by omega)]
    go_enter Tryz.func210, Tryz.ntmps210
    go_wp2
    go_ret
    exact ⟨rfl, rfl⟩
  by_cases b : 57343 < c
  · by_cases d : c ≤ 1114111
    · rw [decide_eq_true (by omega)]
      go_enter Tryz.func210, Tryz.ntmps210
      go_wp2
      go_ret
      exact ⟨rfl, rfl⟩
    · rw [decide_eq_false (by omega)]
      go_enter Tryz.func210, Tryz.ntmps210
      go_wp2
      go_ret
      exact ⟨rfl, rfl⟩
  · rw [decide_eq_false (by omega)]
    go_enter Tryz.func210, Tryz.ntmps210
    go_wp2
    go_ret
    exact ⟨rfl, rfl⟩

set_option maxHeartbeats 4000000 in
set_option maxRecDepth 1000000 in
theorem indexRune_no (c : Int) (h0 : 128 ≤ c) (h1 : c ≤ 2147483647) (hne : c ≠ 65533) (hv : validRune c = false) (w : World) :
    Calls Tryz.prog 235 #[.string ⟨#[13, 10]⟩, .int .i32 c] w fun e w' => e = .returned (.int .i64 (-1)) ∧ Below w.heap.size w w' := by
  have HV := Lib.hid (validRune_calls c (by omega) h1)
  rw [hv] at HV
  have e1 : (c == 65533) = false := beq_eq_false_iff_ne.2 hne
  have e2 : decide (c < 128) = false := decide_eq_false (by omega)
  have e3 : decide (0 ≤ c) = true := decide_eq_true (by omega)
  clear hne hv
  go_enter Tryz.func235, Tryz.ntmps235
  go_wp2_with fail
  refine (HV.out _).mono ?_; rintro en w' ⟨rfl, rfl⟩
  go_wp2_with fail
  go_ret
  exact ⟨rfl, Below.refl _ _⟩

theorem indexByte_none (b : UInt8) (w : World) : Calls Tryz.prog 240 #[.string ByteArray.empty, .int .u8 b.toNat] w fun e w' => e = .returned (.int .i64 (-1)) ∧ w = w' := by
  have h := Any.strings_IndexByte Tryz.lays137 ByteArray.empty (b.toNat : Int) w
  have e : ByteArray.empty.data.toList = [] := rfl
  rw [e] at h
  exact h.mono fun _ _ h => ⟨h.1, h.2.symm⟩
set_option maxHeartbeats 8000000 in
set_option maxRecDepth 1000000 in
theorem indexRune_long (c : Int) (h0 : 128 ≤ c) (h1 : c ≤ 2147483647) (hne : c ≠ 65533) (hv : validRune c = true) (hsz : 3 ≤ (Utf8.encode c).size) (w : World) :
    Calls Tryz.prog 235 #[.string ⟨#[13, 10]⟩, .int .i32 c] w fun e w' => e = .returned (.int .i64 (-1)) ∧ Below w.heap.size w w' := by
  have HV := Lib.hid (validRune_calls c (by omega) h1)
  obtain ⟨f1, f2, -⟩ := encode_facts c (by rw [validRune_eq]; exact hv) h0
  rw [hv] at HV
  have e1 : (c == 65533) = false := beq_eq_false_iff_ne.2 hne
  have e2 : decide (c < 128) = false := decide_eq_false (by omega)
  have e3 : decide (0 ≤ c) = true := decide_eq_true (by omega)
  clear hne hv
  have h34 : (Utf8.encode c).size = 3 ∨ (Utf8.encode c).size = 4 := by omega
  clear f1 f2 hsz
  rcases h34 with h3 | h3
  all_goals
    go_enter Tryz.func235, Tryz.ntmps235
    go_wp2_with fail
    refine (HV.out _).mono ?_; rintro en w' ⟨rfl, rfl⟩
    go_wp2_with fail
    go_step3
    go_wp2_with fail
    refine wp_loop_rounds 1 ?_
    rw [rounds_succ]
    go_wp2_with fail
    rw [Exit.noGoto_ret]
    go_ret
    exact ⟨rfl, Below.refl _ _⟩
set_option maxHeartbeats 8000000 in
set_option maxRecDepth 1000000 in
theorem indexRune_two (c : Int) (h0 : 128 ≤ c) (h1 : c ≤ 2147483647) (hne : c ≠ 65533) (hv : validRune c = true) (hsz : (Utf8.encode c).size = 2) (w : World) :
    Calls Tryz.prog 235 #[.string ⟨#[13, 10]⟩, .int .i32 c] w fun e w' => e = .returned (.int .i64 (-1)) ∧ Below w.heap.size w w' := by
  have HV := Lib.hid (validRune_calls c (by omega) h1)
  obtain ⟨-, -, f3⟩ := encode_facts c (by rw [validRune_eq]; exact hv) h0
  rw [hv] at HV
  have e1 : (c == 65533) = false := beq_eq_false_iff_ne.2 hne
  have e2 : decide (c < 128) = false := decide_eq_false (by omega)
  have e3 : decide (0 ≤ c) = true := decide_eq_true (by omega)
  clear hne hv
  have hlt : 1 < (Utf8.encode c).size := by omega
  have f4 : 128 ≤ ((Utf8.encode c)[1]'hlt).toNat := by
    have := f3 (by omega)
    simpa only [hsz] using this
  clear f3
  generalize hb : (Utf8.encode c)[1]'hlt = b at *
  have HB := Lib.hid (indexByte_none b)
  have e5 : ((((⟨#[13, 10]⟩ : ByteArray)[1]'(by decide)).toNat : Int) != (b.toNat : Int)) = true := by
    rw [bne_iff_ne]
    show (10 : Int) ≠ _
    omega
  have e6 : IntKind.i64.wrap 2 = 2 := by decide
  go_enter Tryz.func235, Tryz.ntmps235
  go_wp2_with fail
  refine (HV.out _).mono ?_; rintro en w' ⟨rfl, rfl⟩
  go_wp2_with fail
  go_step3
  go_wp2_with fail
  refine wp_loop_rounds 1 ?_
  rw [rounds_succ]
  go_wp2_with fail
  go_step3
  go_wp2_with fail
  go_quiet (fail)
  have hb1 := Lib.hid (below_drewN w nq)
  generalize w.drewN nq = w1 at *
  go_wp2_with fail
  go_quiet ((go_at_call 240; exact Calls.quiet_of_same ((HB.out _).mono fun _ _ h => ⟨h.1, h.2.symm⟩)))
  have hb2 := Lib.hid (bstep hb1.out (below_drewN w1 nq))
  generalize w1.drewN nq = w2 at *
  go_wp2_with fail
  simp only [Exit.noGoto_ret, Exit.inBlock, Exit.then]
  go_ret
  exact ⟨rfl, hb2.out⟩
end Go.Proofs.YtpmlhmdmnbmnnaaGreatDoor
/- Package value's textFits at a Verbatim. No condition but the text's bound. -/
namespace Go.Proofs.YtpmlhmdmnbmnnaaGreatDoor
open Go.ChangeShapes Go.WideShapes Go.ChangeAt Go.RowKit

set_option maxHeartbeats 1000000 in
theorem fits_verb (t : ByteArray) (hm : t.size ≤ 9223372036854775807) : Fits 11 t := by
  by_cases h : t.size ≤ 4096
  case neg => exact fits_long 11 t h hm
  intro w
  rw [short_yes h, if_neg (by omega), if_neg (by omega), if_neg (by omega), if_pos rfl]
  have hl : t.data.toList.length = t.size := Array.length_toList
  rw [hl]
  by_cases h4 : 4 ≤ t.size
  · have h3 : 3 < t.size := h4
    rw [decide_eq_true h4, Bool.true_and]
    have hg : t.data.toList.getD 3 0 = t[3]'h3 := by
      rw [List.getD_eq_getElem?_getD, List.getElem?_eq_getElem (by rw [hl]; omega)]
      rfl
    rw [hg]
    generalize hb : t[3]'h3 = b
    have hB : Hid (t[3]'h3 = b) := Lib.hid hb
    have e : ((b.toNat : Int) == 58) = (b == 58) := by
      by_cases q : b = 58
      · subst q; rfl
      · rw [beq_eq_false_iff_ne.2 q, beq_eq_false_iff_ne]
        intro h
        exact q (UInt8.toNat_inj.1 (by show b.toNat = 58; omega))
    have E := Lib.hid e
    clear e hg hl
    go_enter Tryz.func188, Tryz.ntmps188
    go_wp2_with fail
    go_ret
    exact ⟨by rw [← E.out]; rfl, Below.refl _ _⟩
  · rw [decide_eq_false h4, Bool.false_and]
    clear hl
    go_enter Tryz.func188, Tryz.ntmps188
    go_wp2_with fail
    go_ret
    exact ⟨rfl, Below.refl _ _⟩
end Go.Proofs.YtpmlhmdmnbmnnaaGreatDoor
/- strings.TrimPrefix and strings.TrimLeft as package value calls them, by the shelf; textFits at a Big. No condition but the text bound. -/
namespace Go.Proofs.YtpmlhmdmnbmnnaaGreatDoor
open Go.ChangeShapes Go.WideShapes Go.ChangeAt Go.RowKit
open Go.Shelf Go.Lib in
theorem trimLeft_calls (s : ByteArray) (w : World) : Calls Tryz.prog 218 #[.string s, .string ⟨#[48, 49, 50, 51, 52, 53, 54, 55, 56, 57]⟩] w fun e w' =>
    e = .returned (.string ⟨(Lib.trimLeftS s.data.toList [48, 49, 50, 51, 52, 53, 54, 55, 56, 57]).toArray⟩) ∧ Below w.heap.size w w' :=
  Any.strings_TrimLeft_laid Tryz.lays161 (by kernel_rfl) s ⟨#[48, 49, 50, 51, 52, 53, 54, 55, 56, 57]⟩ w (by decide) (ascii_of_all (by decide))
open Go.Shelf Go.Lib in
theorem trimPrefix_calls (s : ByteArray) (w : World) : Calls Tryz.prog 217 #[.string s, .string ⟨#[45]⟩] w fun e w' =>
    e = .returned (.string ⟨(Lib.trimPrefix s.data.toList [45]).toArray⟩) ∧ w = w' :=
  (Any.strings_TrimPrefix Tryz.lays101 s ⟨#[45]⟩ w).mono fun _ _ h => ⟨h.1, h.2.symm⟩
def digitsL : List UInt8 := [48, 49, 50, 51, 52, 53, 54, 55, 56, 57]
theorem digit_mem (b : UInt8) : digitsL.contains b = decide (48 ≤ b.toNat ∧ b.toNat ≤ 57) := by
  have h : ∀ n : Fin 256, digitsL.contains (UInt8.ofNat n.1) = decide (48 ≤ (UInt8.ofNat n.1).toNat ∧ (UInt8.ofNat n.1).toNat ≤ 57) := by decide +kernel
  have := h ⟨b.toNat, b.toNat_lt⟩
  simpa using this
theorem dropAll {p : UInt8 → Bool} : ∀ {l : List UInt8}, (l.dropWhile p).isEmpty = l.all p := by
  intro l
  induction l with
  | nil => rfl
  | cons b l ih =>
    rw [List.dropWhile_cons, List.all_cons]
    cases hb : p b with
    | true => simpa using ih
    | false => simp
theorem trimLeft_empty (l : List UInt8) : (Lib.trimLeftS l digitsL).isEmpty = l.all fun b => decide (48 ≤ b.toNat ∧ b.toNat ≤ 57) := by
  unfold Lib.trimLeftS
  rw [dropAll]
  congr 1
  funext b
  exact digit_mem b
theorem bigB_eq (l : List UInt8) : bigB l = (!(Lib.trimPrefix l [45]).isEmpty && (Lib.trimPrefix l [45]).all fun b => decide (48 ≤ b.toNat ∧ b.toNat ≤ 57)) := by
  unfold Lib.trimPrefix
  cases l with
  | nil => rfl
  | cons b l =>
    by_cases hb : b = 45
    · subst hb
      have : Lib.hasPrefix (45 :: l) [45] = true := by simp [Lib.hasPrefix]
      rw [if_pos this]
      rfl
    · have : Lib.hasPrefix (b :: l) [45] = false := by
        show ((45 : UInt8) == b && _) = false
        rw [beq_eq_false_iff_ne.2 (Ne.symm hb)]
        rfl
      rw [if_neg (by rw [this]; decide)]
      unfold bigB
      split
      · rename_i e
        injection e with e1 _
        exact absurd e1 hb
      · rfl
set_option maxHeartbeats 1000000 in
theorem fits_big (t : ByteArray) (hm : t.size ≤ 9223372036854775807) : Fits 9 t := by
  by_cases h : t.size ≤ 4096
  case neg => exact fits_long 9 t h hm
  intro w
  rw [short_yes h, if_neg (by omega), if_neg (by omega), if_pos rfl, bigB_eq, ← trimLeft_empty]
  have h1 := trimPrefix_calls t
  have h2 := trimLeft_calls ⟨(Lib.trimPrefix t.data.toList [45]).toArray⟩
  change ∀ w, Calls _ _ _ w (fun e w' => e = .returned (.string ⟨(Lib.trimLeftS (Lib.trimPrefix t.data.toList [45]) digitsL).toArray⟩) ∧ Below w.heap.size w w') at h2
  generalize Lib.trimPrefix t.data.toList [45] = u at *
  generalize Lib.trimLeftS u digitsL = v at *
  have H1 := Lib.hid h1
  have H2 := Lib.hid h2
  clear h1 h2
  cases hu : u.isEmpty with
  | true =>
    obtain rfl : u = [] := by simpa using hu
    clear hu
    go_enter Tryz.func188, Tryz.ntmps188
    go_wp2_with fail
    refine (H1.out _).mono ?_; rintro en w' ⟨rfl, rfl⟩
    go_wp2_with fail
    go_ret
    exact ⟨rfl, Below.refl _ _⟩
  | false =>
    have e1 : (⟨u.toArray⟩ : ByteArray).toList.isEmpty = false := by rw [ByteArray.toList_mk]; exact hu
    have e1b : u.isEmpty = false := hu
    cases hv : v.isEmpty with
    | true =>
      obtain rfl : v = [] := by simpa using hv
      clear hu hv
      go_enter Tryz.func188, Tryz.ntmps188
      go_wp2_with fail
      refine (H1.out _).mono ?_; rintro en w' ⟨rfl, rfl⟩
      go_wp2_with fail
      refine (H2.out _).mono ?_; rintro en w1 ⟨rfl, hb1⟩
      have Hb := Lib.hid hb1
      clear hb1
      go_wp2_with fail
      go_ret
      exact ⟨rfl, Hb.out⟩
    | false =>
      have e2 : (⟨v.toArray⟩ : ByteArray).toList.isEmpty = false := by rw [ByteArray.toList_mk]; exact hv
      have e2b : v.isEmpty = false := hv
      clear hu hv
      go_enter Tryz.func188, Tryz.ntmps188
      go_wp2_with fail
      refine (H1.out _).mono ?_; rintro en w' ⟨rfl, rfl⟩
      go_wp2_with fail
      refine (H2.out _).mono ?_; rintro en w1 ⟨rfl, hb1⟩
      have Hb := Lib.hid hb1
      clear hb1
      go_wp2_with fail
      go_ret
      exact ⟨rfl, Hb.out⟩
end Go.Proofs.YtpmlhmdmnbmnnaaGreatDoor
/- strings.IndexAny and ContainsAny of CR LF at EVERY text; package value's textFits at a line. No condition but the text's bound. -/
namespace Go.Proofs.YtpmlhmdmnbmnnaaGreatDoor
open Go.ChangeShapes Go.WideShapes Go.ChangeAt Go.RowKit

theorem indexRune_big (c : Int) (h0 : 128 ≤ c) (h1 : c ≤ 2147483647) (w : World) : Calls Tryz.prog 235 #[.string ⟨#[13, 10]⟩, .int .i32 c] w fun e w' => e = .returned (.int .i64 (-1)) ∧ Below w.heap.size w w' := by
  by_cases he : c = 65533
  · subst he; exact indexRune_err w
  · cases hv : validRune c with
    | false => exact indexRune_no c h0 h1 he hv w
    | true =>
      obtain ⟨f1, f2, -⟩ := encode_facts c (by rw [validRune_eq]; exact hv) h0
      by_cases h2 : (Utf8.encode c).size = 2
      · exact indexRune_two c h0 h1 he hv h2 w
      · exact indexRune_long c h0 h1 he hv (by omega) w
theorem indexRune_small (x : UInt8) (hx : x.toNat < 128) (w : World) : Calls Tryz.prog 235 #[.string ⟨#[13, 10]⟩, .int .i32 x.toNat] w fun e w' => e = .returned (.int .i64 (Lib.indexByte [13, 10] x)) ∧ Below w.heap.size w w' := by
  have h := Any.strings_IndexRune_ascii Tryz.lays152 ⟨#[13, 10]⟩ (x.toNat : Int) w (by omega) (by omega)
  have e : ((x.toNat : Int)).toNat.toUInt8 = x := by simp
  rw [e] at h
  exact h.mono fun _ _ h => ⟨h.1, h.2 ▸ Below.refl _ _⟩

/-- The iterator at a place, wherever it lies. -/
theorem run_next_at {P : Program} (W : World) (k : Nat) (s : ByteArray) (pos : Nat) (ty : TypeId) (hk : W.heap[k]? = some (.stringIter s pos)) (h : pos < s.size) :
    (Instr.next (.pointer (some ⟨k, 0, none⟩)) true ty).run P W = .ok (.tuple #[.bool true, .int .i64 pos, .int .i32 (Utf8.decode s pos).1]) { W with heap := W.heap.setIfInBounds k (.stringIter s (pos + (Utf8.decode s pos).2)) } := by
  simp only [Instr.next, getObj, setObj, Sem.run_bind, Sem.run, hk, Result.andThen, h, if_true]
  simp [goInt]
theorem run_next_off {P : Program} (W : World) (k : Nat) (s : ByteArray) (pos : Nat) (ty : TypeId) (hk : W.heap[k]? = some (.stringIter s pos)) (h : ¬ pos < s.size) :
    (Instr.next (.pointer (some ⟨k, 0, none⟩)) true ty).run P W = .ok (.tuple #[.bool false]) W := by
  simp [Instr.next, getObj, Sem.run, hk, h]
theorem put_iter (W : World) (k : Nat) (o : Obj) (B : Nat) (w0 : World) (hB : B ≤ k) (hb : Below B w0 W) : Below B w0 { W with heap := W.heap.setIfInBounds k o } := by
  refine ⟨hb.os, hb.tape, hb.output, by simpa using hb.size, fun i hi => ?_⟩
  rw [← hb.block i hi]
  show (W.heap.setIfInBounds k o)[i]? = _
  rw [Array.getElem?_setIfInBounds_ne (by omega)]
theorem put_same (W : World) (k : Nat) (o : Obj) (h : k < W.heap.size) : ({ W with heap := W.heap.setIfInBounds k o } : World).heap[k]? = some o := by
  show (W.heap.setIfInBounds k o)[k]? = _
  rw [Array.getElem?_setIfInBounds_self_of_lt h]

/-- A rune of 128 and more takes bytes of 128 and more. -/
theorem decode_bytes (s : ByteArray) (pos : Nat) (h : pos < s.size) (ha : 128 ≤ (s[pos]'h).toNat) : ∀ j, j < (Utf8.decode s pos).2 → ∃ hj : pos + j < s.size, 128 ≤ (s[pos + j]'hj).toNat := by
  have hg : ∀ k (hk : pos + k < s.size), s.get! (pos + k) = s[pos + k]'hk := fun k hk => by
    show s.get! (pos + k) = _
    simp [ByteArray.get!, getElem!_pos, hk]
    rfl
  have hc : ∀ k, (decide (pos + k < s.size) && (s.get! (pos + k)).toNat / 64 == 2) = true → ∃ hk : pos + k < s.size, 128 ≤ (s[pos + k]'hk).toNat := fun k hk => by
    simp only [Bool.and_eq_true, decide_eq_true_eq, beq_iff_eq] at hk
    refine ⟨hk.1, ?_⟩
    rw [← hg k hk.1]
    omega
  have h0 : ∃ hj : pos + 0 < s.size, 128 ≤ (s[pos + 0]'hj).toNat := ⟨h, ha⟩
  intro j hj
  simp only [Utf8.decode] at hj
  repeat' split at hj
  all_goals simp only [Bool.and_eq_true] at *
  all_goals (
    have hjs : j = 0 ∨ j = 1 ∨ j = 2 ∨ j = 3 := by omega
    rcases hjs with rfl | rfl | rfl | rfl)
  all_goals first | exact h0 | omega | (refine hc _ ?_; clear hg hc h0; simp_all)
/-- No line ends ahead of a place. -/
def NoLine (s : ByteArray) (p : Nat) : Prop := ∀ j (hj : j < s.size), j < p → s[j]'hj ≠ 13 ∧ s[j]'hj ≠ 10
def hasLine (s : ByteArray) : Bool := s.data.toList.any fun b => b == 13 || b == 10
theorem line_no {s : ByteArray} (h : NoLine s s.size) : hasLine s = false := by
  unfold hasLine
  rw [List.any_eq_false]
  intro b hb hc
  obtain ⟨i, hi, rfl⟩ := List.getElem_of_mem hb
  have hi' : i < s.size := by rw [Array.length_toList] at hi; exact hi
  have := h i hi' hi'
  have e : s.data.toList[i] = s[i]'hi' := rfl
  rw [e] at hc
  simp only [Bool.or_eq_true, beq_iff_eq] at hc
  rcases hc with hc | hc
  · exact this.1 hc
  · exact this.2 hc
theorem line_yes {s : ByteArray} {p : Nat} (hp : p < s.size) (h : s[p]'hp = 13 ∨ s[p]'hp = 10) : hasLine s = true := by
  unfold hasLine
  rw [List.any_eq_true]
  have hl : p < s.data.toList.length := by rw [Array.length_toList]; exact hp
  refine ⟨s.data.toList[p]'hl, List.getElem_mem _, ?_⟩
  have e : s.data.toList[p]'hl = s[p]'hp := rfl
  rw [e]
  rcases h with h | h <;> rw [h] <;> decide
theorem index_small (x : UInt8) (hx : x.toNat < 128) : (0 ≤ Lib.indexByte [13, 10] x ↔ (x = 13 ∨ x = 10)) ∧ (-1 ≤ Lib.indexByte [13, 10] x ∧ Lib.indexByte [13, 10] x ≤ 1) := by
  have h : ∀ n : Fin 128, (0 ≤ Lib.indexByte [13, 10] (UInt8.ofNat n.val) ↔ (UInt8.ofNat n.val = 13 ∨ UInt8.ofNat n.val = 10)) ∧ (-1 ≤ Lib.indexByte [13, 10] (UInt8.ofNat n.val) ∧ Lib.indexByte [13, 10] (UInt8.ofNat n.val) ≤ 1) := by decide +kernel
  have := h ⟨x.toNat, hx⟩
  simpa using this

set_option maxHeartbeats 8000000 in
set_option maxRecDepth 1000000 in
theorem indexAny_short (s : ByteArray) (h8 : s.size ≤ 8) (w : World) :
    Calls Tryz.prog 228 #[.string s, .string ⟨#[13, 10]⟩] w fun e w' => ∃ x : Int, e = .returned (.int .i64 x) ∧ decide (0 ≤ x) = hasLine s ∧ Below w.heap.size w w' := by
  have h8z : decide ((8 : Int) < (s.size : Int)) = false := decide_eq_false (by omega)
  have HU := Lib.hid (Any.strings_shouldUseASCIISet { Tryz.lays153 with } (s.size : Int))
  rw [h8z] at HU
  clear h8z
  go_enter Tryz.func228, Tryz.ntmps228
  go_wp2_with fail
  refine (HU.out _).mono ?_; rintro en w1 ⟨rfl, hw1⟩
  obtain rfl : w = w1 := hw1.symm
  clear hw1 HU
  go_wp2_with fail
  go_loopg [9, 10] s.size (fun g _ _ wx => ∃ i : Nat, s.size ≤ i + g ∧ wx.heap[w.heap.size]? = some (.stringIter s i) ∧ Below w.heap.size w wx ∧ NoLine s i)
  case atStart => exact ⟨0, by omega, World.iter_heap _ _ _, below_iter _ _ _, fun j _ hj => absurd hj (by omega)⟩
  case round =>
    obtain ⟨i, hig, hit, hb, hno⟩ := hrel
    have Hno := Lib.hid hno
    have Hb := Lib.hid hb
    have Hit := Lib.hid hit
    have hlt : w.heap.size < wr.heap.size := by
      rcases Nat.lt_or_ge w.heap.size wr.heap.size with h | h
      · exact h
      · rw [Array.getElem?_eq_none h] at hit; cases hit
    have Hlt := Lib.hid hlt
    by_cases hi : i < s.size
    · obtain ⟨g, rfl⟩ : ∃ g, gk = g + 1 := by
        cases gk with
        | zero => exfalso; omega
        | succ g => exact ⟨g, rfl⟩
      have hnx := fun ty => run_next_at (P := Tryz.prog) wr w.heap.size s i ty hit hi
      have hfacts : ∀ o, ∃ W2 : World, W2 = { wr with heap := wr.heap.setIfInBounds w.heap.size o } ∧ W2.heap[w.heap.size]? = some o ∧ Below w.heap.size w W2 := fun o => ⟨_, rfl, put_same wr w.heap.size o hlt, put_iter wr w.heap.size o w.heap.size w (Nat.le_refl _) hb⟩
      clear hb hno hit hlt
      by_cases hx : (s[i]'hi).toNat < 128
      · have hd := decode_ascii s i hi hx
        rw [hd] at hnx
        obtain ⟨W2, hW, hput, hbp⟩ := hfacts (.stringIter s (i + 1))
        simp only [← hW] at hnx
        have Hput := Lib.hid hput
        have Hbp := Lib.hid hbp
        clear hput hbp hfacts hW
        obtain ⟨k1, k2, k3⟩ := index_small (s[i]'hi) hx
        have HR := Lib.hid (indexRune_small (s[i]'hi) hx)
        have hxe : ∀ b : UInt8, (s[i]'hi).toNat = b.toNat → s[i]'hi = b := fun b h => UInt8.toNat_inj.1 h
        generalize hb : s[i]'hi = x at *
        have HBx := Lib.hid hb
        clear hd hb hxe
        generalize Lib.indexByte [13, 10] x = q at *
        by_cases hq : 0 ≤ q
        · have Hk := Lib.hid (k1.1 hq)
          clear k1
          go_wp2_with fail
          refine (HR.out _).mono ?_; rintro en w3 ⟨rfl, hb3⟩
          have Hb3 := Lib.hid hb3
          clear hb3
          go_wp2_with fail
          go_ret
          exact ⟨i, rfl, by rw [line_yes hi (by rw [HBx.out]; exact Hk.out)]; simp, Hbp.out.trans (Hb3.out.mono Hbp.out.size)⟩
        · have Hk : Hid (¬ (x = 13 ∨ x = 10)) := Lib.hid fun h => hq (k1.2 h)
          clear k1
          go_wp2_with fail
          refine (HR.out _).mono ?_; rintro en w3 ⟨rfl, hb3⟩
          have Hb3 := Lib.hid hb3
          clear hb3
          go_wp2_with fail
          go_roundg g
          case measure => omega
          case rel =>
            have hl : w.heap.size < W2.heap.size := by
              rcases Nat.lt_or_ge w.heap.size W2.heap.size with h | h
              · exact h
              · have := Hput.out; rw [Array.getElem?_eq_none h] at this; cases this
            refine ⟨i + 1, by omega, (Hb3.out.block _ hl).trans Hput.out, Hbp.out.trans (Hb3.out.mono Hbp.out.size), fun j hj h => ?_⟩
            by_cases e : j = i
            · subst e
              rw [HBx.out]
              exact ⟨fun h => Hk.out (.inl h), fun h => Hk.out (.inr h)⟩
            · exact Hno.out j hj (by omega)
      · have hd := decode_high s i hi (by omega)
        have hle := decode_le s i
        have HBy := Lib.hid (decode_bytes s i hi (by omega))
        have HR := Lib.hid (indexRune_big ((Utf8.decode s i).1 : Int) (by omega) (by omega))
        generalize (Utf8.decode s i).1 = c at *
        generalize (Utf8.decode s i).2 = d at *
        obtain ⟨W2, hW, hput, hbp⟩ := hfacts (.stringIter s (i + d))
        simp only [← hW] at hnx
        have Hput := Lib.hid hput
        have Hbp := Lib.hid hbp
        clear hput hbp hfacts hW
        go_wp2_with fail
        refine (HR.out _).mono ?_; rintro en w3 ⟨rfl, hb3⟩
        have Hb3 := Lib.hid hb3
        clear hb3
        go_wp2_with fail
        go_roundg g
        case measure => omega
        case rel =>
          have hl : w.heap.size < W2.heap.size := by
            rcases Nat.lt_or_ge w.heap.size W2.heap.size with h | h
            · exact h
            · have := Hput.out; rw [Array.getElem?_eq_none h] at this; cases this
          refine ⟨i + d, by omega, (Hb3.out.block _ hl).trans Hput.out, Hbp.out.trans (Hb3.out.mono Hbp.out.size), fun j hj h => ?_⟩
          by_cases e : j < i
          · exact Hno.out j hj e
          · obtain ⟨hj2, hge⟩ := HBy.out (j - i) (by omega)
            have e2 : s[i + (j - i)]'hj2 = s[j]'hj := by congr 1; omega
            rw [e2] at hge
            exact ⟨fun h => by rw [h] at hge; exact absurd hge (by decide), fun h => by rw [h] at hge; exact absurd hge (by decide)⟩
    · have hnx := fun ty => run_next_off (P := Tryz.prog) wr w.heap.size s i ty hit hi
      clear hb hno hlt
      go_wp2_with fail
      go_ret
      exact ⟨-1, rfl, by rw [line_no (fun j hj h => Hno.out j hj (by omega))]; rfl, Hb.out⟩
theorem any_two (l : List UInt8) : decide (0 ≤ Lib.indexAny l [13, 10]) = l.any fun b => b == 13 || b == 10 := by
  induction l with
  | nil => rfl
  | cons b l ih =>
    have hge := Lib.indexAny_ge [13, 10] l
    rw [List.any_cons, ← ih, Lib.indexAny]
    have hc : ([13, 10] : List UInt8).contains b = (b == 13 || b == 10) := by cases h1 : b == 13 <;> cases h2 : b == 10 <;> simp [List.contains, List.elem, h1, h2]
    rw [hc]
    by_cases hb : (b == 13 || b == 10) = true
    · rw [if_pos hb, hb]; rfl
    · rw [if_neg hb, (Bool.not_eq_true _).mp hb, Bool.false_or]
      by_cases he : Lib.indexAny l [13, 10] = -1
      · rw [he]; rfl
      · rw [if_neg (by simpa using he)]
        by_cases h0 : 0 ≤ Lib.indexAny l [13, 10]
        · rw [decide_eq_true h0, decide_eq_true (by omega)]
        · rw [decide_eq_false h0, decide_eq_false (by omega)]
theorem indexAny_calls (s : ByteArray) (hs : s.size ≤ 4096) (w : World) :
    Calls Tryz.prog 228 #[.string s, .string ⟨#[13, 10]⟩] w fun e w' => ∃ x : Int, e = .returned (.int .i64 x) ∧ decide (0 ≤ x) = hasLine s ∧ Below w.heap.size w w' := by
  by_cases h8 : s.size ≤ 8
  · exact indexAny_short s h8 w
  · have h116 : (Tryz.prog.info? 278).map (fun i => (i.zero, i.size)) = some (some (.agg (Array.replicate 256 (.bool false))), 256) := by kernel_rfl
    refine (Any.strings_IndexAny_long Tryz.lays153 (zero_of_info h116).1 (zero_of_info h116).2 s ⟨#[13, 10]⟩ w (by decide) (by omega) (by omega) (by decide) ?_).mono fun e w' h => ⟨_, h.1, any_two _, ?_⟩
    · intro j b hj
      have : ∀ b ∈ ([13, 10] : List UInt8), b.toNat < 128 := by decide
      exact this b (List.mem_of_getElem? hj)
    · rw [h.2]
      exact ((Below.refl _ _).alloc (Nat.le_refl _) _).alloc (by simp) _
set_option maxHeartbeats 1000000 in
theorem containsAny_calls (s : ByteArray) (hs : s.size ≤ 4096) (w : World) :
    Calls Tryz.prog 216 #[.string s, .string ⟨#[13, 10]⟩] w fun e w' => e = .returned (.bool (hasLine s)) ∧ Below w.heap.size w w' := by
  have H := Lib.hid (indexAny_calls s hs)
  go_enter Tryz.func216, Tryz.ntmps216
  go_wp2_with fail
  refine (H.out _).mono ?_; rintro en w' ⟨x, rfl, hx, hb⟩
  have Hx := Lib.hid hx
  have Hb := Lib.hid hb
  clear hx hb
  go_wp2_with fail
  go_ret
  exact ⟨by rw [← Hx.out]; rfl, Hb.out⟩
set_option maxHeartbeats 1000000 in
theorem fits_line (k : Int) (t : ByteArray) (hk : k = 1 ∨ k = 2) (hm : t.size ≤ 9223372036854775807) : Fits k t := by
  by_cases h : t.size ≤ 4096
  case neg => exact fits_long k t h hm
  intro w
  rw [short_yes h, if_pos hk]
  have H := Lib.hid (containsAny_calls t h)
  have e : (t.data.toList.any fun b => b == 13 || b == 10) = hasLine t := rfl
  rw [e]
  generalize hasLine t = q at *
  clear e
  rcases hk with rfl | rfl
  all_goals
    go_enter Tryz.func188, Tryz.ntmps188
    go_wp2_with fail
    refine (H.out _).mono ?_; rintro en w1 ⟨rfl, hb1⟩
    have Hb := Lib.hid hb1
    clear hb1
    go_wp2_with fail
    go_ret
    exact ⟨rfl, Hb.out⟩
theorem fits_all (k : Int) (t : ByteArray) (hm : t.size ≤ 9223372036854775807) : Fits k t := by
  by_cases h : 1 ≤ k ∧ k ≤ 14
  · have hc : (k = 1 ∨ k = 2) ∨ (k = 4 ∨ k = 10) ∨ k = 9 ∨ k = 11 ∨ (k = 3 ∨ k = 5 ∨ k = 6 ∨ k = 7 ∨ k = 8 ∨ k = 12 ∨ k = 13 ∨ k = 14) := by omega
    rcases hc with h | h | rfl | rfl | h
    · exact fits_line k t h hm
    · exact fits_bulk k t h hm
    · exact fits_big t hm
    · exact fits_verb t hm
    · exact fits_none k t h hm
  · exact fits_other k t (by omega) hm
/-- Whatever lies in memory can be asked. -/
theorem fits_lies {S : Nat → Prop} {w : World} : ∀ {v : Val}, Lies S w v → v.fits := by
  intro v
  induction v with
  | no => exact fun h => h.elim
  | mk k t z r f a c n K ih =>
    intro hl
    obtain ⟨⟨-, -, ht, -⟩, -, hk⟩ := hl
    exact ⟨fits_all k t (by omega), fun i hi => ih i (hk i hi).2⟩
end Go.Proofs.YtpmlhmdmnbmnnaaGreatDoor
