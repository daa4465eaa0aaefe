/- Package reader's further calls: end, line, kindOf, sound, number. Conditions: what start-up lays ('PCtx'); the variable MaxLen holds some int; bounds. -/
import Derived.Test.YtimgkbpiengnjaaGreatDoorRb1
import Derived.Deep.RegionHeld3
import Derived.BigQuiet
import Derived.StillTailTactics
namespace Go.Proofs.YtimgkbpiengnjaaGreatDoor.Ln
open Go.ChangeShapes Go.WideShapes Go.ChangeAt Go.RowKit

set_option maxRecDepth 100000 in
set_option maxHeartbeats 2000000 in
theorem end_ok (S B : Nat) (w : World) (t : List UInt8) (r : Int) (h : Src S B w (13 :: 10 :: t) r) :
    Calls Tryz.prog 22 #[.pointer (some ⟨S, 0, none⟩)] w fun e w' => e = .returned (.tuple #[]) ∧ FrS S w w' ∧ Src S B w' t r := by
  have HT := Lib.hid (take_one S B w.drew _ _ r h.drew)
  have hw1 : IntKind.i64.wrap 1 = 1 := rfl
  have hw2 : IntKind.i64.wrap 2 = 2 := rfl
  go_enter Tryz.func22, Tryz.ntmps22
  go_wp2_with fail
  refine wp_loop_rounds 3 ?_
  rw [rounds_succ]
  go_wp2_with fail
  go_region_held3 (fun _ : World => True)
    (exact trivial)
    (first
      | (go_at_call 14; refine HT.out.mono ?_; rintro e w1 ⟨rfl, hb1, hs1⟩)
      | (go_at_call 19; refine (need_b _ (by kernel_rfl) _).mono ?_; rintro e w2 ⟨rfl, rfl⟩))
  have HU := Lib.hid (take_one S B w1.drew _ _ r hs1.drew)
  have HB := Lib.hid hb1
  clear HT hb1 hs1 h
  go_wp2_with fail
  rw [rounds_succ]
  go_wp2_with fail
  go_region_held3 (fun _ : World => True)
    (exact trivial)
    (first
      | (go_at_call 14; refine HU.out.mono ?_; rintro e w3 ⟨rfl, hb3, hs3⟩)
      | (go_at_call 19; refine (need_b _ (by kernel_rfl) _).mono ?_; rintro e w2 ⟨rfl, rfl⟩))
  have HC := Lib.hid hb3
  have HS := Lib.hid hs3
  clear hb3 hs3 HU
  go_wp2_with fail
  rw [rounds_succ]
  go_wp2_with fail
  go_end0
  exact ⟨rfl, ((FrS.drew S w).trans HB.out).trans ((FrS.drew S w1).trans HC.out), HS.out⟩
theorem kind_bulk (w : World) : Calls Tryz.prog 13 #[.string ⟨#[36]⟩] w fun e w' => e = .returned (.int .i64 4) ∧ w = w' := by
  go_enter Tryz.func13, Tryz.ntmps13
  go_wp2
  go_ret
  exact ⟨rfl, rfl⟩
theorem kind_array (w : World) : Calls Tryz.prog 13 #[.string ⟨#[42]⟩] w fun e w' => e = .returned (.int .i64 5) ∧ w = w' := by
  go_enter Tryz.func13, Tryz.ntmps13
  go_wp2
  go_ret
  exact ⟨rfl, rfl⟩
theorem kind_whole (w : World) : Calls Tryz.prog 13 #[.string ⟨#[58]⟩] w fun e w' => e = .returned (.int .i64 3) ∧ w = w' := by
  go_enter Tryz.func13, Tryz.ntmps13
  go_wp2
  go_ret
  exact ⟨rfl, rfl⟩
theorem kind_push (w : World) : Calls Tryz.prog 13 #[.string ⟨#[62]⟩] w fun e w' => e = .returned (.int .i64 14) ∧ w = w' := by
  go_enter Tryz.func13, Tryz.ntmps13
  go_wp2
  go_ret
  exact ⟨rfl, rfl⟩
theorem kind_no (w : World) : Calls Tryz.prog 13 #[.string ⟨#[63]⟩] w fun e w' => e = stop brokeV ∧ w = w' := by
  go_enter Tryz.func13, Tryz.ntmps13
  go_wp2
  exact ⟨rfl, rfl, rfl⟩
theorem sound_ok (n : Int) (w : World) : Calls Tryz.prog 24 #[.int .i64 n, .int .i64 0] w fun e w' => e = .returned (.int .i64 n) ∧ w = w' := by
  go_enter Tryz.func24, Tryz.ntmps24
  go_wp2_with (go_at_call 19; refine (need_ok w).mono ?_; rintro e w' ⟨rfl, rfl⟩)
  go_ret
  exact ⟨rfl, rfl⟩
theorem sound_no (n : Int) (e : Int) (he : (e == 0) = false) (w : World) : Calls Tryz.prog 24 #[.int .i64 n, .int .i64 e] w fun e w' => e = stop brokeV ∧ w = w' := by
  go_enter Tryz.func24, Tryz.ntmps24
  go_wp2_with (go_at_call 19; refine (need_no w).mono ?_; rintro e w' ⟨rfl, rfl⟩)
  exact ⟨rfl, rfl, rfl⟩
set_option maxHeartbeats 2000000 in
theorem number_ok (T : ByteArray) (hT : T.size ≤ 1000000) (n : Nat) (most : Int) (hn : Num.wp T.data.toList = ((n : Int), 0)) (hm : (n : Int) ≤ most) (h64 : (n : Int) ≤ 9223372036854775807) (w : World) (hc : PCtx w) :
    Calls Tryz.prog 23 #[.string T, .int .i64 most] w fun e w' => e = .returned (.int .i64 (n : Int)) ∧ Below w.heap.size w w' := by
  have HP := Lib.hid (Parse_calls T (by omega) w hc.ctx _ _ hn)
  have h0 : (0 : Int) ≤ (n : Int) := by omega
  go_enter Tryz.func23, Tryz.ntmps23
  go_wp2_with (first
    | (go_at_call 25; refine HP.out.mono ?_; rintro e w2 ⟨rfl, hb⟩)
    | (go_at_call 24; refine (sound_ok _ _).mono ?_; rintro e w3 ⟨rfl, rfl⟩)
    | (go_at_call 19; refine (need_ok _).mono ?_; rintro e w3 ⟨rfl, rfl⟩))
  go_ret
  exact ⟨rfl, hb⟩
theorem take_front (S B : Nat) (w : World) (l t : List UInt8) (r : Int) (h : Src S B w (l ++ t) r) :
    Calls Tryz.prog 14 #[.pointer (some ⟨S, 0, none⟩), .int .i64 (l.length : Int)] w fun e w' => e = .returned (.string ⟨l.toArray⟩) ∧ FrS S w w' ∧ Src S B w' t r := by
  have h1 := take_ok S B w _ r h l.length (by simp)
  rw [List.take_left' rfl, List.drop_left' rfl] at h1
  exact h1
theorem bdr (w : World) (n : Nat) : Below w.heap.size w (w.drewN n) := ⟨rfl, rfl, rfl, Nat.le_refl _, fun _ _ => rfl⟩
theorem ahead_mid : ∀ (l : List UInt8) (x : UInt8) (t : List UInt8), (∀ y ∈ l, Lw.crlf y = false) → Lw.crlf x = true → Lw.ahead Lw.crlf (l ++ x :: t) = l.length
  | [], x, t, _, hx => by simp [Lw.ahead, hx]
  | y :: l, x, t, h, hx => by
    have h1 := h y (by simp)
    have h2 := ahead_mid l x t (fun z hz => h z (by simp [hz])) hx
    simp only [Lw.ahead] at h2
    simp [Lw.ahead, h1, h2]
set_option maxRecDepth 100000 in
set_option maxHeartbeats 1000000 in
theorem line_ok (S B : Nat) (w : World) (l t : List UInt8) (r : Int) (h : Src S B w (l ++ 13 :: 10 :: t) r) (hl : l.length ≤ 4000) (hno : ∀ x ∈ l, Lw.crlf x = false) (hc : PCtx w) (hmx : MaxOk w) :
    Calls Tryz.prog 15 #[.pointer (some ⟨S, 0, none⟩)] w fun e w' => e = .returned (.string ⟨l.toArray⟩) ∧ FrS S w w' ∧ Src S B w' t r := by
  obtain ⟨a, c, h0, hB, hA⟩ := h.row
  have HS := Lib.hid h
  have hcap := hB.cap
  have hmax := hB.max
  have hLL : (l ++ 13 :: 10 :: t).length = l.length + (t.length + 2) := by simp
  obtain ⟨R, hR⟩ : ∃ R : Nat, R = min (l.length + (t.length + 2)) 4200 := ⟨_, rfl⟩
  have hRT : ((l ++ 13 :: 10 :: t).take 4200).length = R := by rw [List.length_take, hLL, hR]; omega
  have hmin : (min ((l.length + (t.length + 2) : Nat) : Int) 4200) = (R : Int) := by omega
  have hto := hB.to R (by rw [hLL]; omega)
  have hI := Lib.hid (fun w2 (h2 : Below w.heap.size w w2) => bany_calls ((l ++ 13 :: 10 :: t).take 4200) (by rw [hRT]; omega) a c w2 (hc.below h2) (hmx.below h2) ((hB.take 4200).below h2))
  rw [hRT] at hI
  have hidx : idxC ((l ++ 13 :: 10 :: t).take 4200) = (l.length : Int) := by
    have e : (l ++ 13 :: 10 :: t).take 4200 = l ++ 13 :: (10 :: t).take (4200 - l.length - 1) := by
      rw [List.take_append, List.take_of_length_le (by omega), show 4200 - l.length = (4200 - l.length - 1) + 1 by omega, List.take_succ_cons]
      congr 2
    rw [e]
    unfold idxC
    rw [ahead_mid l 13 _ hno (by decide), if_pos (by simp)]
  rw [hidx] at hI
  rw [hLL] at h0 hto
  have k0 : ¬ (l.length : Int) < 0 := by omega
  have k1 : ((l.length : Int) == (R : Int) - 1) = false := by
    refine beq_eq_false_iff_ne.2 ?_
    omega
  generalize hK : l.length = K at *
  generalize hN : K + (t.length + 2) = N at *
  clear hB hA h
  go_enter Tryz.func15, Tryz.ntmps15
  go_wp2_with fail
  have g0 : w.drew.cell? ⟨S, 0, none⟩ = some (.slice a N c) := h0
  go_big_quiet (fail)
  go_wp2_with fail
  simp only [← hR]
  refine (hI.out _ (bdr w _)).mono ?_
  rintro en w2 ⟨rfl, hb2⟩
  have hb3 : Below w.heap.size w w2 := (bdr w _).trans hb2
  have HS2 := Lib.hid (HS.out.below hb3)
  have HB3 : Hid (FrS S w w2) := Lib.hid (Fr.of_below hb3)
  have d0 : decide ((K : Int) < 0) = false := decide_eq_false (by omega)
  have hR2 : R ≤ 4200 := by omega
  have hwr : IntKind.i64.wrap ((R : Int) - 1) = (R : Int) - 1 := by rw [IntKind.wrap_i64]; omega
  clear hb2 hb3 hI hto g0 h0 hR hmin hRT hLL hcap hmax
  have HT := Lib.hid (fun n => take_front S B (w2.drewN n) l (13 :: 10 :: t) r (HS2.out.below (bdr w2 n)))
  rw [hK] at HT
  go_wp2_with fail
  go_big_quiet (fail)
  go_wp2_with (go_at_call 14; refine (HT.out _).mono ?_; rintro e w3 ⟨rfl, hb4, hs4⟩)
  have HB4 := Lib.hid hb4
  have HE := Lib.hid (end_ok S B w3 t r hs4)
  clear hb4 hs4 HT HS2
  go_wp2_with (go_at_call 22; refine HE.out.mono ?_; rintro e w5 ⟨rfl, hb5, hs5⟩)
  go_ret
  refine ⟨rfl, HB3.out.trans (Fr.trans ?_ (HB4.out.trans hb5)), hs5⟩
  exact FrS.drewN _ _ _
end Go.Proofs.YtimgkbpiengnjaaGreatDoor.Ln
