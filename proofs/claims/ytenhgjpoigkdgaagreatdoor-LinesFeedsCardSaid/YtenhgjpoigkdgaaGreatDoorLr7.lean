/- The checking package's array, at every text that begins with an asterisk. No condition but a bound. -/
import Derived.Test.YtenhgjpoigkdgaaGreatDoorLr4
import Derived.Test.YtenhgjpoigkdgaaGreatDoorLr6
import Derived.Test.YtenhgjpoigkdgaaGreatDoorLz5
namespace Go.Proofs.YtenhgjpoigkdgaaGreatDoor.Ln
open Go.ChangeShapes Go.WideShapes Go.ChangeAt Go.RowKit
open Go.Proofs.YtenhgjpoigkdgaaGreatDoor.Lw
theorem sizedR_num (L : List UInt8) : Lw.sizedR L = match numberR 36 0 4096 L with
    | .bad => .bad
    | .short => .short
    | .got n u => Lw.endR ((L.drop u).drop n.toNat) ((L.drop u).take n.toNat) (u + n.toNat + 2) := by
  cases L with
  | nil => rfl
  | cons c r =>
    rw [sized_cons]
    unfold numberR
    by_cases h : c = 36
    · simp only [if_pos h]
      cases hn : Lw.numR 0 4096 r with
      | bad => rfl
      | short => rfl
      | got n u =>
        show Lw.endR (r.drop (u + n.toNat)) ((r.drop u).take n.toNat) (1 + u + n.toNat + 2) = Lw.endR (((c :: r).drop (u + 1)).drop n.toNat) (((c :: r).drop (u + 1)).take n.toNat) (u + 1 + n.toNat + 2)
        rw [List.drop_succ_cons, List.drop_drop, show 1 + u + n.toNat + 2 = u + 1 + n.toNat + 2 by omega]
    · simp only [if_neg h]
theorem numberR_got {mark : UInt8} {least most : Int} {l : List UInt8} {n : Int} {u : Nat} (h : numberR mark least most l = .got n u) : 3 ≤ u ∧ u ≤ l.length ∧ u ≤ 4201 ∧ least ≤ n ∧ n ≤ most := by
  unfold numberR at h
  split at h
  · cases h
  · split at h
    · split at h
      · cases h
      · cases h
      · rename_i hn
        have := Lw.numR_got hn
        injection h with h1 h2
        subst h1 h2
        simp only [List.length_cons]
        omega
    · cases h
section
variable {α : Type} {R : List UInt8} {m : Nat} {x : α} {v : Nat}
theorem endR_short0 (hm : R.length ≤ m) : Lw.endR (R.drop m) x v = .short := by rw [List.drop_of_length_le hm]; rfl
theorem endR_bad1 (hm : m < R.length) (h : R[m] ≠ 13) : Lw.endR (R.drop m) x v = .bad := by
  rw [dropc hm]
  generalize R[m] = c at *
  generalize R.drop (m + 1) = t
  unfold Lw.endR
  split
  · rename_i e; cases e
  · rename_i e; injection e with e _; exact absurd e h
  · rename_i e; injection e with e _; exact absurd e h
  · rfl
theorem endR_short1 (hm : m < R.length) (h : R[m] = 13) (h1 : R.length ≤ m + 1) : Lw.endR (R.drop m) x v = .short := by
  rw [dropc hm, h, List.drop_of_length_le h1]; rfl
theorem endR_bad2 (hm : m + 1 < R.length) (h : R[m] = 13) (h2 : R[m + 1] ≠ 10) : Lw.endR (R.drop m) x v = .bad := by
  rw [dropc (by omega), dropc hm, h]
  generalize R[m + 1] = c at *
  generalize R.drop (m + 1 + 1) = t
  unfold Lw.endR
  split
  · rename_i e; cases e
  · rename_i e; injection e with _ e; cases e
  · rename_i e; injection e with _ e; injection e with e _; exact absurd e h2
  · rfl
theorem endR_got2 (hm : m + 1 < R.length) (h : R[m] = 13) (h2 : R[m + 1] = 10) : Lw.endR (R.drop m) x v = .got x v := by
  rw [dropc (by omega), dropc hm, h, h2]; rfl
end
def arrR (N : Lw.R Int) (l : List UInt8) : Lw.R (List (List UInt8)) := match N with
  | .bad => .bad
  | .short => .short
  | .got n u => Lw.loopR n.toNat u [] l
theorem counted_num {l : List UInt8} (h : l.head? = some 42) : Lw.countedR l = arrR (numberR 42 (-1) 64 l) l := by
  cases l with
  | nil => cases h
  | cons c r =>
    obtain rfl : c = 42 := Option.some.inj h
    unfold Lw.countedR numberR
    simp only [List.tail_cons, if_true]
    cases Lw.numR (-1) 64 r with
    | bad => rfl
    | short => rfl
    | got n u => show Lw.loopR _ (1 + u) _ _ = Lw.loopR _ (u + 1) _ _; rw [Nat.add_comm]
theorem step36 {d a : Nat} {acc : List (List UInt8)} {l : List UInt8} {o : Lw.R (List (List UInt8))} (h : Lw.loopR (d + 1) a acc l = o) :
    (numberR 36 0 4096 (l.drop a) = .bad → o = .bad) ∧ (numberR 36 0 4096 (l.drop a) = .short → o = .short) ∧ ∀ (m v : Nat) (R : List UInt8), numberR 36 0 4096 (l.drop a) = .got (m : Int) v → R = (l.drop a).drop v →
      (Lw.endR (R.drop m) (R.take m) (v + m + 2) = .bad → o = .bad) ∧ (Lw.endR (R.drop m) (R.take m) (v + m + 2) = .short → o = .short) ∧
      (Lw.endR (R.drop m) (R.take m) (v + m + 2) = .got (R.take m) (v + m + 2) → Lw.loopR d (a + (v + m + 2)) (acc ++ [R.take m]) l = o) := by
  rw [Lw.loopR_succ, sizedR_num] at h
  refine ⟨fun e => by rw [e] at h; exact h.symm, fun e => by rw [e] at h; exact h.symm, fun m v R e hR => ?_⟩
  subst hR
  rw [e] at h
  simp only [Int.toNat_natCast] at h
  exact ⟨fun e2 => by rw [e2] at h; exact h.symm, fun e2 => by rw [e2] at h; exact h.symm, fun e2 => by rw [e2] at h; exact h⟩
theorem ext_from (s : ByteArray) (a : Nat) : ∃ T : ByteArray, s.extract a s.size = T ∧ T.size = s.size - a ∧ Hid (T.data.toList = s.data.toList.drop a) := by
  have e : (s.extract a s.size).data.toList = s.data.toList.drop a := by rw [Lib.extract_data, ← len_of s, List.take_of_length_le (by simp)]
  exact ⟨_, rfl, by rw [← len_of, e, List.length_drop, len_of], Lib.hid e⟩
/-- What comes of the checking package's array. -/
def ArrAns (o : Lw.R (List (List UInt8))) (w : World) (e : Ending) (w' : World) : Prop := Below w.heap.size w w' ∧
  ((o = .bad ∧ e = .returned (.tuple #[.slice none 0 0, .int .i64 0, .int .i64 2])) ∨ (o = .short ∧ e = .returned (.tuple #[.slice none 0 0, .int .i64 0, .int .i64 1])) ∨
    ∃ ws u v, o = .got ws u ∧ e = .returned (.tuple #[v, .int .i64 (u : Nat), .int .i64 0]) ∧ Strs w w' v ws)
set_option maxHeartbeats 16000000 in
set_option maxRecDepth 1000000 in
theorem rarray_calls (s : ByteArray) (hs : s.size ≤ 1000000) (h42 : s.data.toList.head? = some 42) (w : World) : Calls Tryz.prog 29 #[.string s] w (ArrAns (Lw.countedR s.data.toList) w) := by
  have HN42 : Hid (∀ w, Calls Tryz.prog 47 #[.string s, .int .u8 42, .int .i64 (-1), .int .i64 64] w fun e w' => NumberAns (numberR 42 (-1) 64 s.data.toList) e ∧ w' = w) := Lib.hid (fun w => rnumber_calls w s hs 42 (-1) 64)
  have HN36 : Hid (∀ w T, T.size ≤ 1000000 → Calls Tryz.prog 47 #[.string T, .int .u8 36, .int .i64 0, .int .i64 4096] w fun e w' => NumberAns (numberR 36 0 4096 T.data.toList) e ∧ w' = w) := Lib.hid (fun w T hT => rnumber_calls w T hT 36 0 4096)
  have hls := len_of s
  rw [counted_num h42]
  clear h42
  generalize hN : numberR 42 (-1) 64 s.data.toList = N at *
  generalize ho : arrR N s.data.toList = o
  have HO := Lib.hid ho
  have Hn := Lib.hid hN
  clear ho hN
  go_enter Tryz.func29, Tryz.ntmps29
  go_wp2_with fail
  refine (HN42.out _).mono ?_
  rintro en w1 ⟨hans, rfl⟩
  rcases hans with ⟨rfl, rfl⟩ | ⟨rfl, rfl⟩ | ⟨n, u, rfl, rfl⟩
  · go_wp2_with fail
    go_ret3
    exact ⟨Below.refl _ _, .inl ⟨HO.out.symm, rfl⟩⟩
  · go_wp2_with fail
    go_ret3
    exact ⟨Below.refl _ _, .inr (.inl ⟨HO.out.symm, rfl⟩)⟩
  have hg := numberR_got Hn.out
  have HO2 : Hid (Lw.loopR n.toNat u [] s.data.toList = o) := Lib.hid HO.out
  clear HO Hn HN42
  rw [hls] at hg
  go_wp2_with fail
  go_loopg [6, 8, 9, 10, 11, 12, 13] 64 (fun g av ov iv _ _ _ _ wr => ∃ (i a : Nat) (acc : List (List UInt8)), av = .int .i64 a ∧ iv = .int .i64 i ∧ i ≤ n.toNat ∧ n.toNat - i ≤ g ∧ a ≤ s.size ∧ acc.length ≤ i ∧ Strs w1 wr ov acc ∧ Hid (Lw.loopR (n.toNat - i) a acc s.data.toList = o))
  case atStart => exact ⟨0, u, [], rfl, rfl, by omega, by omega, by omega, Nat.le_refl _, strs_made w1, HO2⟩
  case round =>
    obtain ⟨i, a, acc, rfl, rfl, hi, hgk, ha, hacc, hS, HR⟩ := hrel
    obtain ⟨pa, cp, rfl, hcp, hcm⟩ := hS.slice
    have hcn : (cellsS acc).length = acc.length := cellsS_len acc
    rw [hcn] at hS hcp ⊢
    have HS := Lib.hid hS
    clear hS hcn HO2
    by_cases hin : (i : Int) < n
    case neg =>
      have HZ : Hid (o = .got acc a) := Lib.hid (by have h := HR.out; rw [show n.toNat - i = 0 by omega] at h; exact h.symm)
      go_wp2_with fail
      go_ret3
      exact ⟨HS.out.bel, .inr (.inr ⟨_, _, _, HZ.out, rfl, HS.out⟩)⟩
    case pos =>
      obtain ⟨d, hd⟩ : ∃ d, n.toNat - i = d + 1 := ⟨n.toNat - i - 1, by omega⟩
      have HR2 := Lib.hid (step36 (d := d) (a := a) (acc := acc) (l := s.data.toList) (o := o) (by rw [← hd]; exact HR.out))
      obtain ⟨T, hT, hTs, HT⟩ := ext_from s a
      have haN : ((a : Int)).toNat = a := by omega
      have hdi : n.toNat - (i + 1) = d := by omega
      clear HR hd
      go_wp2_with fail
      refine (HN36.out _ T (by omega)).mono ?_
      rintro en w2 ⟨hans, rfl⟩
      rw [HT.out] at hans
      rcases hans with ⟨e, rfl⟩ | ⟨e, rfl⟩ | ⟨m, v, e, rfl⟩
      · have HZ := Lib.hid (HR2.out.1 e)
        clear e HR2
        go_wp2_with fail
        go_ret3
        exact ⟨HS.out.bel, .inl ⟨HZ.out, rfl⟩⟩
      · have HZ := Lib.hid (HR2.out.2.1 e)
        clear e HR2
        go_wp2_with fail
        go_ret3
        exact ⟨HS.out.bel, .inr (.inl ⟨HZ.out, rfl⟩)⟩
      have hgm := numberR_got e
      rw [List.length_drop, hls] at hgm
      obtain ⟨q, rfl⟩ : ∃ q : Nat, m = (q : Int) := ⟨m.toNat, by omega⟩
      obtain ⟨R, hR, hRs, HRl⟩ := ext_from s (a + v)
      have HRd : Hid (R.data.toList = (s.data.toList.drop a).drop v) := Lib.hid (by rw [HRl.out, List.drop_drop])
      have HG := Lib.hid (HR2.out.2.2 q v _ e HRd.out)
      have hRl := len_of R
      have hav : ((a : Int) + (v : Int)).toNat = a + v := by omega
      have hqv : ((q : Int) + 1).toNat = q + 1 := by omega
      clear e HR2 HRl HRd HT hT hTs
      by_cases hq : q < R.size
      case neg =>
        have HZ : Hid (o = .short) := Lib.hid (HG.out.2.1 (endR_short0 (by omega)))
        clear HG
        go_wp2_with fail
        go_ret3
        exact ⟨HS.out.bel, .inr (.inl ⟨HZ.out, rfl⟩)⟩
      case pos =>
        cases e13 : ((R[q].toNat : Int) == 13)
        case false =>
          have ne13 : ((R[q].toNat : Int) != 13) = true := by show (!((R[q].toNat : Int) == 13)) = _; rw [e13]; rfl
          have HZ : Hid (o = .bad) := Lib.hid (HG.out.1 (endR_bad1 (by omega) (byte_not (n := 13) (by omega) e13)))
          clear HG
          go_wp2_with fail
          go_ret3
          exact ⟨HS.out.bel, .inl ⟨HZ.out, rfl⟩⟩
        case true =>
          have ne13 : ((R[q].toNat : Int) != 13) = false := by show (!((R[q].toNat : Int) == 13)) = _; rw [e13]; rfl
          by_cases hq1 : q + 1 < R.size
          case neg =>
            have HZ : Hid (o = .short) := Lib.hid (HG.out.2.1 (endR_short1 (by omega) (byte_is (n := 13) (by omega) e13) (by omega)))
            clear HG
            go_wp2_with fail
            go_ret3
            exact ⟨HS.out.bel, .inr (.inl ⟨HZ.out, rfl⟩)⟩
          case pos =>
            cases e10 : ((R[q + 1].toNat : Int) == 10)
            case false =>
              have ne10 : ((R[q + 1].toNat : Int) != 10) = true := by show (!((R[q + 1].toNat : Int) == 10)) = _; rw [e10]; rfl
              have HZ : Hid (o = .bad) := Lib.hid (HG.out.1 (endR_bad2 (by omega) (byte_is (n := 13) (by omega) e13) (byte_not (n := 10) (by omega) e10)))
              clear HG
              go_wp2_with fail
              go_ret3
              exact ⟨HS.out.bel, .inl ⟨HZ.out, rfl⟩⟩
            case true =>
              have ne10 : ((R[q + 1].toNat : Int) != 10) = false := by show (!((R[q + 1].toNat : Int) == 10)) = _; rw [e10]; rfl
              have HZ : Hid (Lw.loopR d (a + (v + q + 2)) (acc ++ [R.data.toList.take q]) s.data.toList = o) := Lib.hid (HG.out.2.2 (endR_got2 (by omega) (byte_is (n := 13) (by omega) e13) (byte_is (n := 10) (by omega) e10)))
              clear HG
              go_wp2_with (at_builtin; refine strs_push HS.out rfl _ _ rfl rfl (R.data.toList.take q) _ _ _ rfl ?ha ?hl ?_)
              case ha => rw [← ext_take]
              case hl => omega
              intro v3 w3 hS3
              have HS3 := Lib.hid hS3
              clear hS3
              go_wp2_with fail
              go_roundg (gk - 1)
              case measure => omega
              case rel => exact ⟨i + 1, a + (v + q + 2), acc ++ [R.data.toList.take q], by go_num, by go_num, by omega, by omega, by omega, by rw [List.length_append, List.length_singleton]; omega, HS3.out, Lib.hid (by rw [hdi]; exact HZ.out)⟩
end Go.Proofs.YtenhgjpoigkdgaaGreatDoor.Ln
