/- strings.TrimPrefix and strings.TrimLeft as package value calls them, by the shelf; textFits at a Big. No condition but the text bound. -/
import Derived.Test.YtiigfcggdjcmfaaDoorLays
import Derived.Test.YtiigfcggdjcmfaaDoorVc5
import Derived.Shelf.Strings.SlTrimAscii
namespace Go.Proofs.YtiigfcggdjcmfaaDoor
open Go.ChangeShapes Go.WideShapes Go.ChangeAt Go.RowKit
open Go.Shelf Go.Lib in
theorem trimLeft_calls (s : ByteArray) (w : World) : Calls Tryd.prog 57 #[.string s, .string ⟨#[48, 49, 50, 51, 52, 53, 54, 55, 56, 57]⟩] w fun e w' =>
    e = .returned (.string ⟨(Lib.trimLeftS s.data.toList [48, 49, 50, 51, 52, 53, 54, 55, 56, 57]).toArray⟩) ∧ Below w.heap.size w w' :=
  Any.strings_TrimLeft_laid Tryd.lays161 (by kernel_rfl) s ⟨#[48, 49, 50, 51, 52, 53, 54, 55, 56, 57]⟩ w (by decide) (ascii_of_all (by decide))
open Go.Shelf Go.Lib in
theorem trimPrefix_calls (s : ByteArray) (w : World) : Calls Tryd.prog 56 #[.string s, .string ⟨#[45]⟩] w fun e w' =>
    e = .returned (.string ⟨(Lib.trimPrefix s.data.toList [45]).toArray⟩) ∧ w = w' :=
  (Any.strings_TrimPrefix Tryd.lays101 s ⟨#[45]⟩ w).mono fun _ _ h => ⟨h.1, h.2.symm⟩
def digitsL : List UInt8 := [48, 49, 50, 51, 52, 53, 54, 55, 56, 57]
theorem digit_mem (b : UInt8) : digitsL.contains b = decide (48 ≤ b.toNat ∧ b.toNat ≤ 57) := by
  have h : ∀ n : Fin 256, digitsL.contains (UInt8.ofNat n.1) = decide (48 ≤ (UInt8.ofNat n.1).toNat ∧ (UInt8.ofNat n.1).toNat ≤ 57) := by decide +kernel
  have := h ⟨b.toNat, b.toNat_lt⟩
  simpa using this
theorem dropAll {p : UInt8 → Bool} : ∀ {l : List UInt8}, (l.dropWhile p).isEmpty = l.all p := by
  intro l
  induction l with
  | nil => rfl
  | cons b l ih =>
    rw [List.dropWhile_cons, List.all_cons]
    cases hb : p b with
    | true => simpa using ih
    | false => simp
theorem trimLeft_empty (l : List UInt8) : (Lib.trimLeftS l digitsL).isEmpty = l.all fun b => decide (48 ≤ b.toNat ∧ b.toNat ≤ 57) := by
  unfold Lib.trimLeftS
  rw [dropAll]
  congr 1
  funext b
  exact digit_mem b
theorem bigB_eq (l : List UInt8) : bigB l = (!(Lib.trimPrefix l [45]).isEmpty && (Lib.trimPrefix l [45]).all fun b => decide (48 ≤ b.toNat ∧ b.toNat ≤ 57)) := by
  unfold Lib.trimPrefix
  cases l with
  | nil => rfl
  | cons b l =>
    by_cases hb : b = 45
    · subst hb
      have : Lib.hasPrefix (45 :: l) [45] = true := by simp [Lib.hasPrefix]
      rw [if_pos this]
      rfl
    · have : Lib.hasPrefix (b :: l) [45] = false := by
        show ((45 : UInt8) == b && _) = false
        rw [beq_eq_false_iff_ne.2 (Ne.symm hb)]
        rfl
      rw [if_neg (by rw [this]; decide)]
      unfold bigB
      split
      · rename_i e
        injection e with e1 _
        exact absurd e1 hb
      · rfl
set_option maxHeartbeats 1000000 in
theorem fits_big (t : ByteArray) (hm : t.size ≤ 9223372036854775807) : Fits 9 t := by
  by_cases h : t.size ≤ 4096
  case neg => exact fits_long 9 t h hm
  intro w
  rw [short_yes h, if_neg (by omega), if_neg (by omega), if_pos rfl, bigB_eq, ← trimLeft_empty]
  have h1 := trimPrefix_calls t
  have h2 := trimLeft_calls ⟨(Lib.trimPrefix t.data.toList [45]).toArray⟩
  change ∀ w, Calls _ _ _ w (fun e w' => e = .returned (.string ⟨(Lib.trimLeftS (Lib.trimPrefix t.data.toList [45]) digitsL).toArray⟩) ∧ Below w.heap.size w w') at h2
  generalize Lib.trimPrefix t.data.toList [45] = u at *
  generalize Lib.trimLeftS u digitsL = v at *
  have H1 := Lib.hid h1
  have H2 := Lib.hid h2
  clear h1 h2
  cases hu : u.isEmpty with
  | true =>
    obtain rfl : u = [] := by simpa using hu
    clear hu
    go_enter Tryd.func37, Tryd.ntmps37
    go_wp2_with fail
    refine (H1.out _).mono ?_; rintro en w' ⟨rfl, rfl⟩
    go_wp2_with fail
    go_ret
    exact ⟨rfl, Below.refl _ _⟩
  | false =>
    have e1 : (⟨u.toArray⟩ : ByteArray).toList.isEmpty = false := by rw [ByteArray.toList_mk]; exact hu
    have e1b : u.isEmpty = false := hu
    cases hv : v.isEmpty with
    | true =>
      obtain rfl : v = [] := by simpa using hv
      clear hu hv
      go_enter Tryd.func37, Tryd.ntmps37
      go_wp2_with fail
      refine (H1.out _).mono ?_; rintro en w' ⟨rfl, rfl⟩
      go_wp2_with fail
      refine (H2.out _).mono ?_; rintro en w1 ⟨rfl, hb1⟩
      have Hb := Lib.hid hb1
      clear hb1
      go_wp2_with fail
      go_ret
      exact ⟨rfl, Hb.out⟩
    | false =>
      have e2 : (⟨v.toArray⟩ : ByteArray).toList.isEmpty = false := by rw [ByteArray.toList_mk]; exact hv
      have e2b : v.isEmpty = false := hv
      clear hu hv
      go_enter Tryd.func37, Tryd.ntmps37
      go_wp2_with fail
      refine (H1.out _).mono ?_; rintro en w' ⟨rfl, rfl⟩
      go_wp2_with fail
      refine (H2.out _).mono ?_; rintro en w1 ⟨rfl, hb1⟩
      have Hb := Lib.hid hb1
      clear hb1
      go_wp2_with fail
      go_ret
      exact ⟨rfl, Hb.out⟩
end Go.Proofs.YtiigfcggdjcmfaaDoor
