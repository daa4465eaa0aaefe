/- Package table: Len, Room, nextRoom, Clear, New. Conditions: what is always so of a table. -/
import Derived.Test.YtpbblijnfigapaaTa7
namespace Go.Proofs.Ytpbblijnfigapaa.Ta
open Go.ChangeShapes Go.WideShapes Go.ChangeAt Go.RowKit
/-- A call that goes from the table s to s': its blocks alone are other ones, or new. -/
def Moved (T G1 G2 : Nat) (s : St) (w : World) (s' : St) (w' : World) : Prop := ∃ G1' G2', TAt w' T G1' G2' s' ∧ Fr (own T G1 G2 s) w w' ∧ ∀ i, own T G1' G2' s' i → own T G1 G2 s i ∨ w.heap.size ≤ i
set_option maxHeartbeats 1000000 in
theorem len_calls (w : World) (T G1 G2 : Nat) (s : St) (hT : TAt w T G1 G2 s) {c : Int} (hO : Ok c s) :
    Calls Try.prog 12 #[.pointer (some ⟨T, 0, none⟩)] w fun e w' => e = .returned (.int .i64 (lenS s)) ∧ ∃ n, w' = w.drewN n := by
  have c1 := hT.a.c1
  have c4 := hT.b.c1
  have e1 : Go.RowKit.wrap64 (s.e1 + s.e2) = s.e1 + s.e2 := IntWalk.wrap64_in _ (by have := hO.a.rng; have := hO.b.rng; have := hO.b1; have := hO.b2; omega)
  have E1 := Lib.hid e1
  clear hT hO e1
  go_enter Try.func12, Try.ntmps12
  go_wp2_with fail
  go_quiet (fail)
  go_wp2_with fail
  go_ret
  refine ⟨?_, _, rfl⟩
  rw [E1.out]
  rfl
set_option maxHeartbeats 1000000 in
theorem room2_calls (w : World) (T G1 G2 : Nat) (s : St) (hT : TAt w T G1 G2 s) :
    Calls Try.prog 15 #[.pointer (some ⟨T, 0, none⟩)] w fun e w' => e = .returned (.tuple #[.int .i64 (s.now.length : Nat), .int .i64 (s.nxt.length : Nat)]) ∧ ∃ n, w' = w.drewN n := by
  obtain ⟨a0, c0, -⟩ := hT.a.c0
  obtain ⟨a3, c3, -⟩ := hT.b.c0
  have H0 := Lib.hid (fun k => room_calls (w.drewN k) T 0 a0 s.now.length c0)
  have H3 := Lib.hid (fun k => room_calls (w.drewN k) T 3 a3 s.nxt.length c3)
  clear hT
  go_enter Try.func15, Try.ntmps15
  go_wp2_with fail
  go_quiet ((go_at_call 29; first | (with_reducible exact Calls.quiet_of_same ((H0.out _).mono fun _ _ ⟨a, b⟩ => ⟨a, b.symm⟩)) | (with_reducible exact Calls.quiet_of_same ((H3.out _).mono fun _ _ ⟨a, b⟩ => ⟨a, b.symm⟩))))
  go_wp2_with fail
  go_ret2
  exact ⟨rfl, _, rfl⟩
set_option maxHeartbeats 4000000 in
theorem nextRoom_calls (w : World) (T G1 G2 : Nat) (s : St) (hT : TAt w T G1 G2 s) {c : Int} (hO : Ok c s) (hl : lenS s ≤ 511) :
    Calls Try.prog 25 #[.pointer (some ⟨T, 0, none⟩)] w fun e w' => e = .returned (.int .i64 (nextR s : Nat)) ∧ ∃ n, w' = w.drewN n := by
  obtain ⟨a0, c0, -⟩ := hT.a.c0
  have H0 := Lib.hid (room_calls w T 0 a0 s.now.length c0)
  have HL := Lib.hid (fun k => len_calls (w.drewN k) T G1 G2 s (hT.below (drewN_below w k)) hO)
  obtain ⟨L, hL⟩ : ∃ L : Nat, lenS s = (L : Int) := ⟨(lenS s).toNat, by have := hO.a.rng; have := hO.b.rng; unfold lenS; omega⟩
  have hnr : nextR s = nr 60 (max 8 (s.now.length / 2)) L := by unfold nextR; rw [hL]; rfl
  rw [hL] at HL hl
  have HN := Lib.hid hnr
  have hr0 : max 8 (s.now.length / 2) ≤ 2048 := by have := hO.b1; omega
  have hb1 := hO.b1
  have hmx : max (8 : Int) ((s.now.length : Int) / 2) = ((max 8 (s.now.length / 2) : Nat) : Int) := by omega
  clear hT hO hnr
  by_cases hm : 8 < s.now.length / 2
  · have hmi : (8 : Int) < (s.now.length : Int) / 2 := by omega
    clear hmx
    go_enter Try.func25, Try.ntmps25
    go_wp2_with fail
    refine H0.out.mono ?_; rintro en w2 ⟨rfl, rfl⟩
    go_wp2_with fail
    go_loopg [3] 61 (fun g v3 wr => ∃ (r f : Nat), v3 = .int .i64 (r : Nat) ∧ f < g ∧ f ≤ 60 ∧ Hid (nr f r L = nextR s) ∧ 8 ≤ r ∧ r ≤ 4096 ∧ Hid (4 * L + 3 < r * 2 ^ f) ∧ ∃ n, wr = w.drewN n)
    case atStart => exact ⟨s.now.length / 2, 60, by first | rfl | (congr 1; omega), by omega, by omega, Lib.hid (by rw [HN.out]; congr 1; omega), by omega, by omega, Lib.hid (by have : (2 : Nat) ^ 60 = 1152921504606846976 := rfl; rw [this]; omega), 0, rfl⟩
    case round =>
      obtain ⟨r, f, rfl, hfg, hf60, HR, hr8, hr4, HP, n, rfl⟩ := hrel
      by_cases hrl : r / 4 ≤ L
      · have hrc : (r : Int) / 4 ≤ (L : Int) := by omega
        obtain ⟨f', hf'⟩ : ∃ f', f = f' + 1 := by
          cases f with
          | zero => have := HP.out; rw [Nat.pow_zero, Nat.mul_one] at this; omega
          | succ f => exact ⟨f, rfl⟩
        have HR2 : Hid (nr f' (r * 2) L = nextR s) := Lib.hid (by have h := HR.out; rw [hf'] at h; unfold nr at h; rw [if_pos hrl] at h; exact h)
        have HP2 : Hid (4 * L + 3 < r * 2 * 2 ^ f') := Lib.hid (by have h := HP.out; rw [hf', Nat.pow_succ] at h; rw [Nat.mul_assoc, Nat.mul_comm 2]; exact h)
        have hfs : f' + 1 ≤ 60 ∧ f' + 1 < gk := by omega
        clear hf'
        go_wp2_with fail
        refine (HL.out _).mono ?_; rintro en w3 ⟨rfl, m, rfl⟩
        go_wp2_with fail
        go_roundg (gk - 1)
        case measure => omega
        case rel => exact ⟨r * 2, f', by go_num, by omega, by omega, HR2, by omega, by omega, HP2, _, rfl⟩
      · have hrc : ¬ ((r : Int) / 4 ≤ (L : Int)) := by omega
        have HZ : Hid (nextR s = r) := Lib.hid (by have h := HR.out; rw [← h]; cases f with | zero => rfl | succ f => unfold nr; rw [if_neg hrl])
        go_wp2_with fail
        refine (HL.out _).mono ?_; rintro en w3 ⟨rfl, m, rfl⟩
        go_wp2_with fail
        go_ret
        exact ⟨by rw [HZ.out]; rfl, _, rfl⟩
  · have hmi : (s.now.length : Int) / 2 ≤ 8 := by omega
    clear hmx
    go_enter Try.func25, Try.ntmps25
    go_wp2_with fail
    refine H0.out.mono ?_; rintro en w2 ⟨rfl, rfl⟩
    go_wp2_with fail
    go_loopg [3] 61 (fun g v3 wr => ∃ (r f : Nat), v3 = .int .i64 (r : Nat) ∧ f < g ∧ f ≤ 60 ∧ Hid (nr f r L = nextR s) ∧ 8 ≤ r ∧ r ≤ 4096 ∧ Hid (4 * L + 3 < r * 2 ^ f) ∧ ∃ n, wr = w.drewN n)
    case atStart => exact ⟨8, 60, by first | rfl | (congr 1; omega), by omega, by omega, Lib.hid (by rw [HN.out]; congr 1; omega), by omega, by omega, Lib.hid (by have : (2 : Nat) ^ 60 = 1152921504606846976 := rfl; rw [this]; omega), 0, rfl⟩
    case round =>
      obtain ⟨r, f, rfl, hfg, hf60, HR, hr8, hr4, HP, n, rfl⟩ := hrel
      by_cases hrl : r / 4 ≤ L
      · have hrc : (r : Int) / 4 ≤ (L : Int) := by omega
        obtain ⟨f', hf'⟩ : ∃ f', f = f' + 1 := by
          cases f with
          | zero => have := HP.out; rw [Nat.pow_zero, Nat.mul_one] at this; omega
          | succ f => exact ⟨f, rfl⟩
        have HR2 : Hid (nr f' (r * 2) L = nextR s) := Lib.hid (by have h := HR.out; rw [hf'] at h; unfold nr at h; rw [if_pos hrl] at h; exact h)
        have HP2 : Hid (4 * L + 3 < r * 2 * 2 ^ f') := Lib.hid (by have h := HP.out; rw [hf', Nat.pow_succ] at h; rw [Nat.mul_assoc, Nat.mul_comm 2]; exact h)
        have hfs : f' + 1 ≤ 60 ∧ f' + 1 < gk := by omega
        clear hf'
        go_wp2_with fail
        refine (HL.out _).mono ?_; rintro en w3 ⟨rfl, m, rfl⟩
        go_wp2_with fail
        go_roundg (gk - 1)
        case measure => omega
        case rel => exact ⟨r * 2, f', by go_num, by omega, by omega, HR2, by omega, by omega, HP2, _, rfl⟩
      · have hrc : ¬ ((r : Int) / 4 ≤ (L : Int)) := by omega
        have HZ : Hid (nextR s = r) := Lib.hid (by have h := HR.out; rw [← h]; cases f with | zero => rfl | succ f => unfold nr; rw [if_neg hrl])
        go_wp2_with fail
        refine (HL.out _).mono ?_; rintro en w3 ⟨rfl, m, rfl⟩
        go_wp2_with fail
        go_ret
        exact ⟨by rw [HZ.out]; rfl, _, rfl⟩
end Go.Proofs.Ytpbblijnfigapaa.Ta
