/- Package lines' first and Words: the words of every line. Conditions: what start-up lays ('LCtx'); the text's bound. -/
import Derived.Test.YtenhgjpoigkdgaaGreatDoorLx3
import Derived.Test.YtenhgjpoigkdgaaGreatDoorLx4
import Derived.Test.YtenhgjpoigkdgaaGreatDoorLx6
namespace Go.Proofs.YtenhgjpoigkdgaaGreatDoor.Ln
open Go.ChangeShapes Go.WideShapes Go.ChangeAt Go.RowKit
open Go.Proofs.YtenhgjpoigkdgaaGreatDoor.Lw

/-- What comes of a text's first word. -/
def First (s : ByteArray) (w : World) (e : Ending) (w' : World) : Prop := Below w.heap.size w w' ∧ ∃ (word : List UInt8) (R : ByteArray) (ok : Bool),
  e = .returned (.tuple #[.string ⟨word.toArray⟩, .string R, .bool ok]) ∧ word.length + R.size ≤ s.size ∧ (ok = true → R.size < s.size) ∧ ∀ out, wrun (.gap out) s.data.toList = if ok then wrun (.gap (out ++ [word])) R.data.toList else none
theorem first_mk {s R : ByteArray} {w w' : World} {word : List UInt8} {ok : Bool} (hb : Below w.heap.size w w') (h1 : word.length + R.size ≤ s.size) (h2 : ok = true → R.size < s.size) (h3 : ∀ out, wrun (.gap out) s.data.toList = if ok then wrun (.gap (out ++ [word])) R.data.toList else none) :
    First s w (.returned (.tuple #[.string ⟨word.toArray⟩, .string R, .bool ok])) w' := ⟨hb, word, R, ok, rfl, h1, h2, h3⟩
def Marked (m : UInt8) (s : ByteArray) (w : World) (e : Ending) (w' : World) : Prop := ∃ (word : List UInt8) (R : ByteArray) (ok : Bool),
  e = .returned (.tuple #[.string ⟨word.toArray⟩, .string R, .bool ok]) ∧ Below w.heap.size w w' ∧ word.length + R.size ≤ s.size ∧ ∀ out, wrun (.marked m [] out) s.data.toList = if ok then wrun (.after (out ++ [word])) R.data.toList else none
theorem marked_of {m : UInt8} {s : ByteArray} {w : World} {e : Ending} {w' : World} (h : Word m s w e w') : Marked m s w e w' := by
  obtain ⟨hb, word, rest, ok, he, hl, hr⟩ := h
  exact ⟨word, ⟨rest.toArray⟩, ok, he, hb, by rw [size_of]; exact hl, fun out => by rw [bytes_of]; exact hr out⟩
theorem head_one {R : ByteArray} {c : UInt8} {r : List UInt8} (h : R.data.toList = c :: r) : R.extract 0 1 = ⟨#[c]⟩ := by
  refine text_ext ?_
  rw [Lib.extract_data, h]
  simp

set_option maxHeartbeats 4000000 in
set_option maxRecDepth 1000000 in
theorem first_calls (s : ByteArray) (hs : s.size ≤ 1000000) (c : UInt8) (r : List UInt8) (hcr : s.data.toList = c :: r) (hg : gap c = false) (w : World) (hc : LCtx w) :
    Calls Tryz.prog 23 #[.string s] w (First s w) := by
  have h0 : 0 < s.size := by rw [← len_of, hcr]; simp
  obtain ⟨h00, hc0⟩ := head_of hcr
  have htl := tail_of hcr
  have hrl : r.length + 1 = s.size := by rw [← len_of, hcr]; rfl
  have hxl : (s.extract 1 s.size).size = s.size - 1 := by rw [← len_of, htl]; omega
  have HT := Lib.hid htl
  have HC0 := Lib.hid hc0
  have HRL := Lib.hid hrl
  have HX := Lib.hid hxl
  have HQ := Lib.hid ((quoted_calls escaped_calls (s.extract 1 s.size) (by omega) w hc).mono fun _ _ h => marked_of h)
  have HB := Lib.hid ((bare_calls (s.extract 1 s.size) (by omega) w hc).mono fun _ _ h => marked_of h)
  have HI := Lib.hid (indexAny_calls s hs)
  have HCR := Lib.hid hcr
  have cc : ∀ k : Nat, k < 256 → ((s[0].toNat : Int) == (k : Int)) = true → c = UInt8.ofNat k := fun k hk h => by
    rw [u8_of hk] at h
    rw [← HC0.out]
    exact eq_of_beq h
  have cn : ∀ k : Nat, k < 256 → ((s[0].toNat : Int) == (k : Int)) = false → c ≠ UInt8.ofNat k := fun k hk h e => by
    rw [u8_of hk, HC0.out, e] at h
    simp at h
  have Hcc := Lib.hid cc
  have Hcn := Lib.hid cn
  clear cc cn hc htl hc0 hrl hxl hcr
  cases e1 : ((s[0].toNat : Int) == 34)
  case true =>
    have HM : Hid (∀ out, wrun (.gap out) s.data.toList = wrun (.marked 34 [] out) (s.extract 1 s.size).data.toList) := Lib.hid fun out => by
      have e : c = 34 := Hcc.out 34 (by omega) e1
      rw [HCR.out, HT.out, e]
      exact wrun_mark out 34 r (.inl rfl)
    go_enter Tryz.func23, Tryz.ntmps23
    go_wp2_with fail
    refine HQ.out.mono ?_; rintro en w1 ⟨word, R, ok, rfl, hb, hl, hr⟩
    have Hb := Lib.hid hb
    have HR := Lib.hid hr
    clear hb hr
    cases ok with
    | false =>
      go_wp2_with fail
      go_ret3
      exact first_mk Hb.out (by have := HX.out; omega) (fun h => by cases h) (fun out => by rw [HM.out, HR.out]; rfl)
    | true =>
      have HR3 := Lib.hid (fun out => (HR.out out).trans (if_pos rfl))
      clear HR
      by_cases hR0 : 0 < R.size
      · obtain ⟨c2, r2, hcr2⟩ := cons_of hR0
        have HCC := Lib.hid (contains_calls c2)
        have hne : R.toList.isEmpty = false := by rw [Lib.toList_data, hcr2]; rfl
        have HR1 := Lib.hid (head_one hcr2)
        have HCR2 := Lib.hid hcr2
        clear hcr2
        go_wp2_with fail
        rw [HR1.out]
        refine (HCC.out _).mono ?_; rintro en w2 ⟨rfl, rfl⟩
        generalize hq : gap c2 = q at *
        have HQ2 := Lib.hid hq
        clear hq HCC
        go_wp2_with fail
        go_ret3
        refine first_mk Hb.out (by have := HX.out; omega) (fun h => by have := HX.out; omega) (fun out => ?_)
        rw [HM.out, HR3.out, wrun_after, HCR2.out]
        show (if gap c2 = true then _ else _) = _
        rw [HQ2.out]
      · have hl0 : R.data.toList = [] := List.eq_nil_of_length_eq_zero (by rw [len_of]; omega)
        obtain rfl : R = ⟨#[]⟩ := text_ext hl0
        clear hl0
        go_wp2_with fail
        go_ret3
        refine first_mk Hb.out (by have := HX.out; omega) (fun _ => by show 0 < s.size; omega) (fun out => ?_)
        rw [HM.out, HR3.out, wrun_after]
        rfl
  cases e2 : ((s[0].toNat : Int) == 39)
  case true =>
    have HM : Hid (∀ out, wrun (.gap out) s.data.toList = wrun (.marked 39 [] out) (s.extract 1 s.size).data.toList) := Lib.hid fun out => by
      have e : c = 39 := Hcc.out 39 (by omega) e2
      rw [HCR.out, HT.out, e]
      exact wrun_mark out 39 r (.inr rfl)
    go_enter Tryz.func23, Tryz.ntmps23
    go_wp2_with fail
    refine HB.out.mono ?_; rintro en w1 ⟨word, R, ok, rfl, hb, hl, hr⟩
    have Hb := Lib.hid hb
    have HR := Lib.hid hr
    clear hb hr
    cases ok with
    | false =>
      go_wp2_with fail
      go_ret3
      exact first_mk Hb.out (by have := HX.out; omega) (fun h => by cases h) (fun out => by rw [HM.out, HR.out]; rfl)
    | true =>
      have HR3 := Lib.hid (fun out => (HR.out out).trans (if_pos rfl))
      clear HR
      by_cases hR0 : 0 < R.size
      · obtain ⟨c2, r2, hcr2⟩ := cons_of hR0
        have HCC := Lib.hid (contains_calls c2)
        have hne : R.toList.isEmpty = false := by rw [Lib.toList_data, hcr2]; rfl
        have HR1 := Lib.hid (head_one hcr2)
        have HCR2 := Lib.hid hcr2
        clear hcr2
        go_wp2_with fail
        rw [HR1.out]
        refine (HCC.out _).mono ?_; rintro en w2 ⟨rfl, rfl⟩
        generalize hq : gap c2 = q at *
        have HQ2 := Lib.hid hq
        clear hq HCC
        go_wp2_with fail
        go_ret3
        refine first_mk Hb.out (by have := HX.out; omega) (fun h => by have := HX.out; omega) (fun out => ?_)
        rw [HM.out, HR3.out, wrun_after, HCR2.out]
        show (if gap c2 = true then _ else _) = _
        rw [HQ2.out]
      · have hl0 : R.data.toList = [] := List.eq_nil_of_length_eq_zero (by rw [len_of]; omega)
        obtain rfl : R = ⟨#[]⟩ := text_ext hl0
        clear hl0
        go_wp2_with fail
        go_ret3
        refine first_mk Hb.out (by have := HX.out; omega) (fun _ => by show 0 < s.size; omega) (fun out => ?_)
        rw [HM.out, HR3.out, wrun_after]
        rfl
  have n34 := Lib.hid (show c ≠ 34 from Hcn.out 34 (by omega) e1)
  have n39 := Lib.hid (show c ≠ 39 from Hcn.out 39 (by omega) e2)
  have HF : Hid (∀ out, wrun (.gap out) s.data.toList = wrun (.gap (out ++ [s.data.toList.takeWhile fun c => !gap c])) (s.data.toList.dropWhile fun c => !gap c)) := Lib.hid fun out => by
    rw [HCR.out]
    exact wrun_first out c r hg n34.out n39.out
  have hA : ∃ A : Nat, Lw.ahead gap s.data.toList = A ∧ 1 ≤ A ∧ A ≤ s.size ∧ (s.data.toList.takeWhile fun c => !gap c) = s.data.toList.take A ∧ (s.data.toList.dropWhile fun c => !gap c) = s.data.toList.drop A := by
    refine ⟨_, rfl, ?_, by rw [← len_of]; exact Lw.ahead_le _ _, ?_, ?_⟩
    · unfold Lw.ahead
      rw [HCR.out, List.takeWhile_cons, if_pos (by rw [hg]; rfl)]
      simp
    · unfold Lw.ahead
      exact List.prefix_iff_eq_take.1 (List.takeWhile_prefix _)
    · have h := List.takeWhile_append_dropWhile (p := fun c => !gap c) (l := s.data.toList)
      unfold Lw.ahead
      conv => rhs; arg 2; rw [← h]
      rw [List.drop_left]
  obtain ⟨A, hA, hA1, hA2, htk, hdr⟩ := hA
  have Hfin : Hid (∀ w1, Below w.heap.size w w1 → First s w (.returned (.tuple #[.string (s.extract 0 A), .string (s.extract A s.size), .bool true])) w1) := Lib.hid fun w1 hb => by
    have e1 : s.extract 0 A = ⟨(s.data.toList.take A).toArray⟩ := text_ext (by rw [bytes_of, Lib.extract_data]; simp)
    have e2 : (s.extract A s.size).data.toList = s.data.toList.drop A := by rw [Lib.extract_data, List.take_of_length_le (by simp only [List.length_drop, len_of]; omega)]
    have e3 : (s.extract A s.size).size = s.size - A := by rw [← len_of, e2, List.length_drop, len_of]
    rw [e1]
    refine first_mk hb ?_ (fun _ => by omega) fun out => ?_
    · rw [e3, List.length_take, len_of]; omega
    · rw [HF.out, htk, hdr, e2]; rfl
  have HAs := Lib.hid htk
  clear htk hdr HF
  have hidx : idxR s.data.toList = if A < s.size then (A : Int) else -1 := by unfold idxR; rw [hA, len_of]
  have HID := Lib.hid hidx
  clear hidx hA
  by_cases hlt : A < s.size
  · have HI2 : Hid (∀ w, Calls Tryz.prog 37 #[.string s, .string ⟨#[32, 9]⟩] w fun e w' => e = .returned (.int .i64 (A : Int)) ∧ Below w.heap.size w w') := Lib.hid fun w => by
      have h := HI.out w
      rw [HID.out, if_pos hlt] at h
      exact h
    go_enter Tryz.func23, Tryz.ntmps23
    go_wp2_with fail
    refine (HI2.out _).mono ?_; rintro en w1 ⟨rfl, hb⟩
    have Hb := Lib.hid hb
    clear hb
    go_wp2_with fail
    go_quiet (fail)
    go_wp2_with fail
    go_ret3
    exact Hfin.out _ (bstep Hb.out (below_drewN _ _))
  · obtain rfl : A = s.size := by omega
    have HI2 : Hid (∀ w, Calls Tryz.prog 37 #[.string s, .string ⟨#[32, 9]⟩] w fun e w' => e = .returned (.int .i64 (-1)) ∧ Below w.heap.size w w') := Lib.hid fun w => by
      have h := HI.out w
      rw [HID.out, if_neg hlt] at h
      exact h
    go_enter Tryz.func23, Tryz.ntmps23
    go_wp2_with fail
    refine (HI2.out _).mono ?_; rintro en w1 ⟨rfl, hb⟩
    have Hb := Lib.hid hb
    clear hb
    go_wp2_with fail
    go_quiet (fail)
    go_wp2_with fail
    go_ret3
    have h := Hfin.out _ (bstep Hb.out (below_drewN w1 nq))
    have e1 : s.extract 0 s.size = s := text_ext (by rw [Lib.extract_data, List.drop_zero, Nat.sub_zero, List.take_of_length_le (by rw [len_of]; exact Nat.le_refl _)])
    have e2 : s.extract s.size s.size = ByteArray.empty := text_ext (by rw [Lib.extract_data, Nat.sub_self, List.take_zero]; rfl)
    rw [e1, e2] at h
    exact h
end Go.Proofs.YtenhgjpoigkdgaaGreatDoor.Ln
