/- Package lines' number. Conditions: what start-up lays ('PCtx'); the variable MaxLen holds some int; bounds. -/
import Derived.Test.YtenhgjpoigkdgaaGreatDoorLz1
import Derived.Test.YtenhgjpoigkdgaaGreatDoorParse
namespace Go.Proofs.YtenhgjpoigkdgaaGreatDoor.Ln
open Go.ChangeShapes Go.WideShapes Go.ChangeAt Go.RowKit

theorem PCtx.ctx {w : World} (h : PCtx w) : Ctx w := ⟨h.tab, h.syn, h.rng⟩
/-- What a line's number is, as the package answers. -/
def NumAns (o : Lw.R Int) : Value := match o with
  | .bad => .tuple #[.int .i64 0, .int .i64 0, .int .i64 61]
  | .short => .tuple #[.int .i64 0, .int .i64 0, .int .i64 0]
  | .got n u => .tuple #[.int .i64 n, .int .i64 u, .int .i64 0]
theorem begin_crlf (l : List UInt8) : (begE l [13, 10], begB l [13, 10]) = match l with
    | [] => (0, false)
    | [c] => if c = 13 then (0, false) else (61, false)
    | c :: d :: _ => if c = 13 ∧ d = 10 then (0, true) else (61, false) := by
  match l with
  | [] => rfl
  | [c] =>
    unfold begE begB
    by_cases h : c = 13
    · subst h; rfl
    · simp [h]
  | c :: d :: r =>
    unfold begE begB
    have e : min (c :: d :: r).length ([13, 10] : List UInt8).length = 2 := by simp
    rw [e]
    by_cases h : c = 13 ∧ d = 10
    · obtain ⟨rfl, rfl⟩ := h; simp
    · rw [if_neg (by simpa using h), decide_eq_false (fun q => h (by simpa using q.2))]
      show (61, false) = if c = 13 ∧ d = 10 then (0, true) else (61, false)
      rw [if_neg h]
/-- numR, by what begins says of the reach's rest. -/
theorem numR_by (least most : Int) (l : List UInt8) (K : Nat) (hK : Lw.ahead Lw.crlf (l.take 4200) = K) :
    Lw.numR least most l = if begE ((l.take 4200).drop K) [13, 10] = 61 then .bad else if begB ((l.take 4200).drop K) [13, 10] = false then (if (l.take 4200).length = 4200 then .bad else .short)
      else if (Num.wp ((l.take 4200).take K)).2 = 0 ∧ least ≤ (Num.wp ((l.take 4200).take K)).1 ∧ (Num.wp ((l.take 4200).take K)).1 ≤ most then .got (Num.wp ((l.take 4200).take K)).1 (K + 2) else .bad := by
  have hb := begin_crlf ((l.take 4200).drop K)
  have h1 := congrArg Prod.fst hb
  have h2 := congrArg Prod.snd hb
  simp only at h1 h2
  have hlen : ((l.take 4200).length = 4200) = (4200 ≤ l.length) := by rw [List.length_take]; simp; omega
  rw [h1, h2]
  simp only [hlen]
  unfold Lw.numR
  rw [hK]
  match hd : (l.take 4200).drop K with
  | [] => simp
  | [c] =>
    by_cases hc : c = 13
    · subst hc; simp
    · simp only [if_neg hc]
      rw [if_pos trivial]
      split
      · rename_i e; cases e
      · rename_i e; injection e with e _; exact absurd e hc
      · rename_i e; injection e with e _; exact absurd e hc
      · rfl
  | c :: d :: r =>
    by_cases hc : c = 13 ∧ d = 10
    · obtain ⟨rfl, rfl⟩ := hc
      simp
    · simp only [if_neg hc]
      rw [if_pos trivial]
      split
      · rename_i e; cases e
      · rename_i e; injection e with e e2; cases e2
      · rename_i e; injection e with e e2; injection e2 with e2 _; exact absurd ⟨e, e2⟩ hc
      · rfl
theorem wp_bd (l : List UInt8) : -9223372036854775808 ≤ (Num.wp l).1 ∧ (Num.wp l).1 ≤ 9223372036854775807 := by
  rcases Num.wp_cases l with ⟨v, h0, h1, -, h⟩ | ⟨-, h⟩
  · rw [h]; exact ⟨h0, h1⟩
  · rw [h]; exact ⟨by omega, by omega⟩
set_option maxHeartbeats 8000000 in
set_option maxRecDepth 1000000 in
theorem number_calls (l : List UInt8) (hm : l.length ≤ 1000000) (a : Option Addr) (c : Nat) (w : World) (hc : PCtx w) (hmx : MaxOk w) (hB : InB w a c l) (least most : Int) :
    Calls Tryz.prog 39 #[.slice a l.length c, .int .i64 least, .int .i64 most] w fun e w' => e = .returned (NumAns (Lw.numR least most l)) ∧ Below w.heap.size w w' := by
  obtain ⟨K, hK⟩ : ∃ K, Lw.ahead Lw.crlf (l.take 4200) = K := ⟨_, rfl⟩
  rw [numR_by least most l K hK]
  have hR : (min (l.length : Int) 4200) = ((l.take 4200).length : Int) := by rw [List.length_take]; omega
  have hto := hB.to (l.take 4200).length (by rw [List.length_take]; omega)
  rw [← hR] at hto
  have hBL := hB.take 4200
  have hL1 : (l.take 4200).length ≤ 4200 := by rw [List.length_take]; omega
  clear hR hB hm
  generalize l.take 4200 = L at *
  have hKL : K ≤ L.length := by rw [← hK]; exact Lw.ahead_le _ _
  have hidx : idxC L = if K < L.length then (K : Int) else -1 := by unfold idxC; rw [hK]
  obtain ⟨a2, hB2, hfrom⟩ := hBL.drop K hKL
  have HI := Lib.hid (fun w2 (h2 : Below w.heap.size w w2) => bany_calls L (by omega) a c w2 (hc.below h2) (hmx.below h2) (hBL.below h2))
  have hbeg := fun w2 (h2 : Below w.heap.size w w2) => begins_calls (L.drop K) a2 (c - K) w2 (hB2.below h2) ⟨#[13, 10]⟩
  have hcl : (⟨#[13, 10]⟩ : ByteArray).data.toList = [13, 10] := rfl
  have hdl : (L.drop K).length = L.length - K := List.length_drop
  rw [hcl, hdl] at hbeg
  clear hcl hdl
  generalize L.length - K = d at hfrom hbeg
  obtain ⟨be, hbe⟩ : ∃ be, begE (L.drop K) [13, 10] = be := ⟨_, rfl⟩
  obtain ⟨bb, hbb⟩ : ∃ bb, begB (L.drop K) [13, 10] = bb := ⟨_, rfl⟩
  have hbe2 : be = 0 ∨ be = 61 := by rw [← hbe]; unfold begE; split <;> simp
  rw [hbe, hbb] at hbeg ⊢
  have HG := Lib.hid hbeg
  have HT := Lib.hid (fun w2 => tooLong_calls L.length c a w2)
  have hto2 := hBL.to K hKL
  have hcv : ∀ w2, Below w.heap.size w w2 → (convert 22 9 (.slice a K c)).run Tryz.prog w2 = .ok (.string ⟨(L.take K).toArray⟩) w2 := fun w2 h2 => by
    have h := ((hBL.take K).below h2).conv
    rw [show (L.take K).length = K by rw [List.length_take]; omega] at h
    exact h
  obtain ⟨n0, n1⟩ := wp_bd (L.take K)
  obtain ⟨x, e, hxe⟩ : ∃ x e, Num.wp (L.take K) = (x, e) := ⟨_, _, rfl⟩
  have hP := fun w2 (h2 : Below w.heap.size w w2) => Parse_calls ⟨(L.take K).toArray⟩ (by rw [size_of, List.length_take]; omega) w2 (hc.below h2).ctx x e (by rw [bytes_of]; exact hxe)
  generalize (⟨(L.take K).toArray⟩ : ByteArray) = T at hcv hP
  have HCV := Lib.hid hcv
  have HP := Lib.hid hP
  clear hP
  rw [hxe] at n0 n1 ⊢
  have hKL2 : K ≤ 4200 := by omega
  have hb61 : be = 61 → bb = false := by
    intro h
    rw [← hbb]
    unfold begB
    rw [← hbe] at h
    unfold begE at h
    refine decide_eq_false fun q => ?_
    rw [if_pos] at h
    · cases h
    · have e : min (L.drop K).length ([13, 10] : List UInt8).length = 2 := by have := q.1; have e2 : ([13, 10] : List UInt8).length = 2 := rfl; omega
      rw [e]
      have := q.2
      rw [e] at this
      exact this
  have he11 : e = 0 ∨ e = 11 := by
    have h := Num.wp_cases (L.take K)
    rw [hxe] at h
    rcases h with ⟨v, -, -, -, h⟩ | ⟨-, h⟩ <;> injection h with _ h <;> simp [h]
  clear hbe hbb hbeg hcv hB2 hBL hc hmx hK hxe
  have hend : ∀ w1, Below w.heap.size w w1 → True := fun _ _ => trivial
  clear hend
  rcases hbe2 with rfl | rfl
  · cases bb with
    | false =>
      by_cases h42 : L.length = 4200
      · have HT2 : Hid (∀ w2, Calls Tryz.prog 43 #[.slice a L.length c] w2 fun e w' => e = .returned (.int .i64 61) ∧ w2 = w') := Lib.hid fun w2 => by have h := HT.out w2; rw [if_pos h42] at h; exact h
        rw [if_neg (by decide), if_pos rfl, if_pos h42]
        clear h42
        by_cases hlt : K < L.length
        all_goals
          have HI2 : Hid (∀ w2, Below w.heap.size w w2 → Calls Tryz.prog 56 #[.slice a L.length c, .string ⟨#[13, 10]⟩] w2 fun e w' => e = .returned (.int .i64 (if K < L.length then (K : Int) else -1)) ∧ Below w2.heap.size w2 w') := Lib.hid fun w2 h2 => by have h := HI.out w2 h2; rw [hidx] at h; exact h
          first | rw [if_pos hlt] at HI2 | (rw [if_neg hlt] at HI2; obtain rfl : K = L.length := by omega)
          clear HI hidx hlt
          go_enter Tryz.func39, Tryz.ntmps39
          go_wp2_with fail
          refine (HI2.out _ (Below.refl _ _)).mono ?_; rintro en w1 ⟨rfl, hb1⟩
          have Hb1 := Lib.hid hb1
          clear hb1
          go_wp2_with fail
          (with_reducible refine (HG.out _ Hb1.out).mono ?_); rintro en w2 ⟨rfl, hb2⟩
          have Hb2 := Lib.hid (bstep Hb1.out hb2)
          clear hb2
          go_wp2_with fail
          (with_reducible refine (HT2.out _).mono ?_); rintro en w3 ⟨rfl, rfl⟩
          go_wp2_with fail
          go_ret3
          exact ⟨rfl, Hb2.out⟩
      · have HT2 : Hid (∀ w2, Calls Tryz.prog 43 #[.slice a L.length c] w2 fun e w' => e = .returned (.int .i64 0) ∧ w2 = w') := Lib.hid fun w2 => by have h := HT.out w2; rw [if_neg h42] at h; exact h
        rw [if_neg (by decide), if_pos rfl, if_neg h42]
        clear h42
        by_cases hlt : K < L.length
        all_goals
          have HI2 : Hid (∀ w2, Below w.heap.size w w2 → Calls Tryz.prog 56 #[.slice a L.length c, .string ⟨#[13, 10]⟩] w2 fun e w' => e = .returned (.int .i64 (if K < L.length then (K : Int) else -1)) ∧ Below w2.heap.size w2 w') := Lib.hid fun w2 h2 => by have h := HI.out w2 h2; rw [hidx] at h; exact h
          first | rw [if_pos hlt] at HI2 | (rw [if_neg hlt] at HI2; obtain rfl : K = L.length := by omega)
          clear HI hidx hlt
          go_enter Tryz.func39, Tryz.ntmps39
          go_wp2_with fail
          refine (HI2.out _ (Below.refl _ _)).mono ?_; rintro en w1 ⟨rfl, hb1⟩
          have Hb1 := Lib.hid hb1
          clear hb1
          go_wp2_with fail
          (with_reducible refine (HG.out _ Hb1.out).mono ?_); rintro en w2 ⟨rfl, hb2⟩
          have Hb2 := Lib.hid (bstep Hb1.out hb2)
          clear hb2
          go_wp2_with fail
          (with_reducible refine (HT2.out _).mono ?_); rintro en w3 ⟨rfl, rfl⟩
          go_wp2_with fail
          go_ret3
          exact ⟨rfl, Hb2.out⟩
    | true =>
      rw [if_neg (by decide), if_neg (by decide)]
      by_cases hok : e = 0 ∧ least ≤ x ∧ x ≤ most
      · rw [if_pos hok]
        obtain ⟨rfl, hx0, hx1⟩ := hok
        by_cases hlt : K < L.length
        all_goals
          have HI2 : Hid (∀ w2, Below w.heap.size w w2 → Calls Tryz.prog 56 #[.slice a L.length c, .string ⟨#[13, 10]⟩] w2 fun e w' => e = .returned (.int .i64 (if K < L.length then (K : Int) else -1)) ∧ Below w2.heap.size w2 w') := Lib.hid fun w2 h2 => by have h := HI.out w2 h2; rw [hidx] at h; exact h
          first | rw [if_pos hlt] at HI2 | (rw [if_neg hlt] at HI2; obtain rfl : K = L.length := by omega)
          clear HI hidx hlt
          go_enter Tryz.func39, Tryz.ntmps39
          go_wp2_with fail
          refine (HI2.out _ (Below.refl _ _)).mono ?_; rintro en w1 ⟨rfl, hb1⟩
          have Hb1 := Lib.hid hb1
          clear hb1
          go_wp2_with fail
          (with_reducible refine (HG.out _ Hb1.out).mono ?_); rintro en w2 ⟨rfl, hb2⟩
          have Hb2 := Lib.hid (bstep Hb1.out hb2)
          clear hb2
          have hcv2 := HCV.out w2 Hb2.out
          go_wp2_with fail
          (with_reducible refine (HP.out _ Hb2.out).mono ?_); rintro en w3 ⟨rfl, hb3⟩
          have Hb3 := Lib.hid (bstep Hb2.out hb3)
          clear hb3 hcv2
          go_wp2_with fail
          go_ret3
          exact ⟨rfl, Hb3.out⟩
      · rw [if_neg hok]
        rcases he11 with rfl | rfl
        · have hx : x < least ∨ (least ≤ x ∧ most < x) := by omega
          clear hok
          rcases hx with hx | ⟨hx, hx2⟩
          · by_cases hlt : K < L.length
            all_goals
              have HI2 : Hid (∀ w2, Below w.heap.size w w2 → Calls Tryz.prog 56 #[.slice a L.length c, .string ⟨#[13, 10]⟩] w2 fun e w' => e = .returned (.int .i64 (if K < L.length then (K : Int) else -1)) ∧ Below w2.heap.size w2 w') := Lib.hid fun w2 h2 => by have h := HI.out w2 h2; rw [hidx] at h; exact h
              first | rw [if_pos hlt] at HI2 | (rw [if_neg hlt] at HI2; obtain rfl : K = L.length := by omega)
              clear HI hidx hlt
              go_enter Tryz.func39, Tryz.ntmps39
              go_wp2_with fail
              refine (HI2.out _ (Below.refl _ _)).mono ?_; rintro en w1 ⟨rfl, hb1⟩
              have Hb1 := Lib.hid hb1
              clear hb1
              go_wp2_with fail
              (with_reducible refine (HG.out _ Hb1.out).mono ?_); rintro en w2 ⟨rfl, hb2⟩
              have Hb2 := Lib.hid (bstep Hb1.out hb2)
              clear hb2
              have hcv2 := HCV.out w2 Hb2.out
              go_wp2_with fail
              (with_reducible refine (HP.out _ Hb2.out).mono ?_); rintro en w3 ⟨rfl, hb3⟩
              have Hb3 := Lib.hid (bstep Hb2.out hb3)
              clear hb3 hcv2
              go_wp2_with fail
              go_ret3
              exact ⟨rfl, Hb3.out⟩
          · by_cases hlt : K < L.length
            all_goals
              have HI2 : Hid (∀ w2, Below w.heap.size w w2 → Calls Tryz.prog 56 #[.slice a L.length c, .string ⟨#[13, 10]⟩] w2 fun e w' => e = .returned (.int .i64 (if K < L.length then (K : Int) else -1)) ∧ Below w2.heap.size w2 w') := Lib.hid fun w2 h2 => by have h := HI.out w2 h2; rw [hidx] at h; exact h
              first | rw [if_pos hlt] at HI2 | (rw [if_neg hlt] at HI2; obtain rfl : K = L.length := by omega)
              clear HI hidx hlt
              go_enter Tryz.func39, Tryz.ntmps39
              go_wp2_with fail
              refine (HI2.out _ (Below.refl _ _)).mono ?_; rintro en w1 ⟨rfl, hb1⟩
              have Hb1 := Lib.hid hb1
              clear hb1
              go_wp2_with fail
              (with_reducible refine (HG.out _ Hb1.out).mono ?_); rintro en w2 ⟨rfl, hb2⟩
              have Hb2 := Lib.hid (bstep Hb1.out hb2)
              clear hb2
              have hcv2 := HCV.out w2 Hb2.out
              go_wp2_with fail
              (with_reducible refine (HP.out _ Hb2.out).mono ?_); rintro en w3 ⟨rfl, hb3⟩
              have Hb3 := Lib.hid (bstep Hb2.out hb3)
              clear hb3 hcv2
              go_wp2_with fail
              go_ret3
              exact ⟨rfl, Hb3.out⟩
        · clear hok
          by_cases hlt : K < L.length
          all_goals
            have HI2 : Hid (∀ w2, Below w.heap.size w w2 → Calls Tryz.prog 56 #[.slice a L.length c, .string ⟨#[13, 10]⟩] w2 fun e w' => e = .returned (.int .i64 (if K < L.length then (K : Int) else -1)) ∧ Below w2.heap.size w2 w') := Lib.hid fun w2 h2 => by have h := HI.out w2 h2; rw [hidx] at h; exact h
            first | rw [if_pos hlt] at HI2 | (rw [if_neg hlt] at HI2; obtain rfl : K = L.length := by omega)
            clear HI hidx hlt
            go_enter Tryz.func39, Tryz.ntmps39
            go_wp2_with fail
            refine (HI2.out _ (Below.refl _ _)).mono ?_; rintro en w1 ⟨rfl, hb1⟩
            have Hb1 := Lib.hid hb1
            clear hb1
            go_wp2_with fail
            (with_reducible refine (HG.out _ Hb1.out).mono ?_); rintro en w2 ⟨rfl, hb2⟩
            have Hb2 := Lib.hid (bstep Hb1.out hb2)
            clear hb2
            have hcv2 := HCV.out w2 Hb2.out
            go_wp2_with fail
            (with_reducible refine (HP.out _ Hb2.out).mono ?_); rintro en w3 ⟨rfl, hb3⟩
            have Hb3 := Lib.hid (bstep Hb2.out hb3)
            clear hb3 hcv2
            go_wp2_with fail
            go_ret3
            exact ⟨rfl, Hb3.out⟩
  · obtain rfl := hb61 rfl
    rw [if_pos rfl]
    by_cases hlt : K < L.length
    all_goals
      have HI2 : Hid (∀ w2, Below w.heap.size w w2 → Calls Tryz.prog 56 #[.slice a L.length c, .string ⟨#[13, 10]⟩] w2 fun e w' => e = .returned (.int .i64 (if K < L.length then (K : Int) else -1)) ∧ Below w2.heap.size w2 w') := Lib.hid fun w2 h2 => by have h := HI.out w2 h2; rw [hidx] at h; exact h
      first | rw [if_pos hlt] at HI2 | (rw [if_neg hlt] at HI2; obtain rfl : K = L.length := by omega)
      clear HI hidx hlt
      go_enter Tryz.func39, Tryz.ntmps39
      go_wp2_with fail
      refine (HI2.out _ (Below.refl _ _)).mono ?_; rintro en w1 ⟨rfl, hb1⟩
      have Hb1 := Lib.hid hb1
      clear hb1
      go_wp2_with fail
      (with_reducible refine (HG.out _ Hb1.out).mono ?_); rintro en w2 ⟨rfl, hb2⟩
      have Hb2 := Lib.hid (bstep Hb1.out hb2)
      clear hb2
      go_wp2_with fail
      go_ret3
      exact ⟨rfl, Hb2.out⟩
end Go.Proofs.YtenhgjpoigkdgaaGreatDoor.Ln
