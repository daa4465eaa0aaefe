/- The checking package's number, at every text. No condition but a bound. -/
import Derived.Test.YtenhgjpoigkdgaaGreatDoorLr3
import Derived.Test.YtenhgjpoigkdgaaGreatDoorLrp
namespace Go.Proofs.YtenhgjpoigkdgaaGreatDoor.Ln
open Go.ChangeShapes Go.WideShapes Go.ChangeAt Go.RowKit
/-- What comes of a number behind a mark. -/
def numberR (mark : UInt8) (least most : Int) (l : List UInt8) : Lw.R Int :=
  match l with
  | [] => .short
  | c :: r => if c = mark then match Lw.numR least most r with
      | .bad => .bad
      | .short => .short
      | .got n u => .got n (u + 1)
    else .bad
def NumberAns (o : Lw.R Int) (e : Ending) : Prop :=
  (o = .bad ∧ e = .returned (.tuple #[.int .i64 0, .int .i64 0, .int .i64 2])) ∨ (o = .short ∧ e = .returned (.tuple #[.int .i64 0, .int .i64 0, .int .i64 1])) ∨
  ∃ (n : Int) (u : Nat), o = .got n u ∧ e = .returned (.tuple #[.int .i64 n, .int .i64 u, .int .i64 0])
theorem line_len {l t : List UInt8} {u : Nat} (h : Lw.lineR l = .got t u) : t.length ≤ 4200 ∧ u ≤ 4202 := by
  unfold Lw.lineR at h
  have ha := Lw.ahead_le Lw.crlf (l.take 4200)
  rw [List.length_take] at ha
  split at h
  · split at h <;> cases h
  · split at h <;> cases h
  · injection h with h1 h2
    refine ⟨?_, by omega⟩
    rw [← h1, List.length_take, List.length_take]; omega
  · cases h
set_option maxHeartbeats 8000000 in
set_option maxRecDepth 1000000 in
theorem rnumber_calls (w : World) (s : ByteArray) (hs : s.size ≤ 1000000) (mark : UInt8) (least most : Int) :
    Calls Tryz.prog 47 #[.string s, .int .u8 (mark.toNat : Int), .int .i64 least, .int .i64 most] w fun e w' => NumberAns (numberR mark least most s.data.toList) e ∧ w' = w := by
  have HL := Lib.hid (fun (w : World) (s : ByteArray) (hs : s.size ≤ 1000000) => rline_calls w s hs)
  have HP := Lib.hid (fun (w : World) (s : ByteArray) (hs : s.size ≤ 5000) (x y : Int) (h : Num.wp s.data.toList = (x, y)) => refParse_calls s hs w x y h)
  generalize ho : numberR mark least most s.data.toList = o
  have hls := len_of s
  cases hd : s.data.toList with
  | nil =>
    rw [hd] at ho
    have HO : Hid (o = .short) := Lib.hid (ho.symm.trans rfl)
    obtain rfl : s = ⟨#[]⟩ := text_ext (by rw [hd])
    clear ho hls hd hs
    go_enter Tryz.func47, Tryz.ntmps47
    go_wp2_with fail
    go_ret3
    exact ⟨.inr (.inl ⟨HO.out, rfl⟩), by first | rfl | trivial⟩
  | cons c r =>
    rw [hd] at ho hls
    have h0 : 0 < s.size := by rw [← hls, List.length_cons]; omega
    have hne : s.toList.isEmpty = false := by rw [ByteArray.toList_eq, hd]; rfl
    have hc : s[0] = c := by
      have e : s.data.toList[0]'(by rw [hd]; simp) = c := by simp [hd]
      exact e
    have ht := tail_of hd
    generalize hT : s.extract 1 s.size = T at *
    have hsT : T.size ≤ 1000000 := by rw [← len_of T, ht]; rw [List.length_cons] at hls; omega
    have HO := Lib.hid ho
    have HT := Lib.hid ht
    clear ho ht hd
    go_enter Tryz.func47, Tryz.ntmps47
    cases hm : ((s[0].toNat : Int) == (mark.toNat : Int))
    case false =>
      have hn : ¬ c = mark := by
        rintro rfl
        rw [hc] at hm
        simp at hm
      have HR : Hid (o = .bad) := Lib.hid (by rw [← HO.out]; show (if c = mark then _ else _) = _; rw [if_neg hn])
      clear hn hc
      go_wp2_with fail
      go_ret3
      exact ⟨.inl ⟨HR.out, rfl⟩, by first | rfl | trivial⟩
    have hcm : c = mark := by
      have h1 : s[0].toNat = mark.toNat := by have := eq_of_beq hm; omega
      rw [hc] at h1
      exact UInt8.toNat.inj h1
    have HR : Hid ((match Lw.numR least most r with
      | .bad => .bad
      | .short => .short
      | .got n u => .got n (u + 1)) = o) := Lib.hid (by rw [← HO.out]; show _ = (if c = mark then _ else _); rw [if_pos hcm])
    clear hcm hc
    go_wp2_with fail
    refine (HL.out _ T hsT).mono ?_
    rintro en w1 ⟨hans, rfl⟩
    rw [HT.out] at hans
    have hR := HR.out
    rw [Lw.numR_line] at hR
    rcases hans with ⟨h, rfl⟩ | ⟨h, rfl⟩ | ⟨t, u, h, rfl⟩
    · rw [h] at hR
      have HZ : Hid (o = .bad) := Lib.hid hR.symm
      clear hR h
      go_wp2_with fail
      go_ret3
      exact ⟨.inl ⟨HZ.out, rfl⟩, by first | rfl | trivial⟩
    · rw [h] at hR
      have HZ : Hid (o = .short) := Lib.hid hR.symm
      clear hR h
      go_wp2_with fail
      go_ret3
      exact ⟨.inr (.inl ⟨HZ.out, rfl⟩), by first | rfl | trivial⟩
    obtain ⟨hl1, hl2⟩ := line_len h
    rw [h] at hR
    rcases hw : Num.wp t with ⟨x, y⟩
    simp only [hw] at hR
    have hR2 : (if y = 0 ∧ least ≤ x ∧ x ≤ most then (Lw.R.got x (u + 1) : Lw.R Int) else .bad) = o := by
      rw [← hR]
      by_cases hq : y = 0 ∧ least ≤ x ∧ x ≤ most
      · rw [if_pos hq, if_pos hq]
      · rw [if_neg hq, if_neg hq]
    have HZ := Lib.hid hR2
    clear hR2
    have hp := HP.out w1 ⟨t.toArray⟩ (by rw [size_of]; omega) x y (by rw [bytes_of]; exact hw)
    have Hp := Lib.hid hp
    clear hR h hw hp
    go_wp2_with fail
    refine Hp.out.mono ?_
    rintro en w2 ⟨rfl, rfl⟩
    go_wp2_with fail
    all_goals go_ret3
    all_goals first
      | exact .inl ⟨by rw [← HZ.out, if_neg (by omega)], rfl⟩
      | exact .inr (.inr ⟨x, u + 1, by rw [← HZ.out, if_pos (by omega)], rfl⟩)
      | exact ⟨.inl ⟨by rw [← HZ.out, if_neg (by omega)], rfl⟩, by first | rfl | trivial⟩
      | exact ⟨.inr (.inr ⟨x, u + 1, by rw [← HZ.out, if_pos (by omega)], rfl⟩), by first | rfl | trivial⟩
end Go.Proofs.YtenhgjpoigkdgaaGreatDoor.Ln
