/- Parse at texts that are written out: package real's Parse over the translated program. Conditions: the tables hold what start-up lays. -/
import Derived.Test.YtnibfebfgdhfgaaGreatDoorFlc
import Derived.Shelf.Strconv.ToErrorRange
namespace Go.Proofs.YtnibfebfgdhfgaaGreatDoor
open Go.ChangeShapes Go.WideShapes Go.ChangeAt Go.RowKit Go.Sort

/-- What the library's own ParseFloat answers, where its reader reads all of the text. -/
theorem iparse (s : ByteArray) (n : Nat) (hn : n = s.size) (b : Nat) (er : Value) (w : World)
    (h : Calls Tryz.prog 46 #[.string s] w fun e w' => e = .returned (.tuple #[.float .f64 b, .int .i64 n, er]) ∧ w = w') :
    Calls Tryz.prog 21 #[.string s, .int .i64 64] w fun e w' => e = .returned (.tuple #[.float .f64 b, er]) ∧ w = w' := by
  have H := Lib.hid h
  have hk : ((n : Int) != (s.size : Int)) = false := by rw [bne_eq_false_iff_eq]; omega
  clear h hn
  have hp : Calls Tryz.prog 25 #[.string s, .int .i64 64] w fun e w' => e = .returned (.tuple #[.float .f64 b, .int .i64 n, er]) ∧ w = w' := by
    go_enter Tryz.func25, Tryz.ntmps25
    go_wp2_with fail
    refine H.out.mono ?_; rintro en w' ⟨rfl, rfl⟩
    go_wp2_with fail
    go_ret3
    exact ⟨rfl, rfl⟩
  have HP := Lib.hid hp
  clear hp
  go_enter Tryz.func21, Tryz.ntmps21
  go_wp2_with fail
  refine HP.out.mono ?_; rintro en w' ⟨rfl, rfl⟩
  go_wp2_with fail
  go_ret2
  exact ⟨rfl, rfl⟩

/-- strconv.ParseFloat, where the library's own reads all of the text and finds no fault. -/
theorem parseFloat_ok (s : ByteArray) (n : Nat) (hn : n = s.size) (b : Nat) (w : World)
    (h : Calls Tryz.prog 46 #[.string s] w fun e w' => e = .returned (.tuple #[.float .f64 b, .int .i64 n, .nilIface]) ∧ w = w') :
    Calls Tryz.prog 16 #[.string s, .int .i64 64] w fun e w' => e = .returned (.tuple #[.float .f64 b, .nilIface]) ∧ w = w' := by
  have HP := Lib.hid (iparse s n hn b .nilIface w h)
  clear h hn
  go_enter Tryz.func16, Tryz.ntmps16
  go_wp2_with fail
  refine HP.out.mono ?_; rintro en w' ⟨rfl, rfl⟩
  go_wp2_with fail
  go_ret2
  exact ⟨rfl, rfl⟩

theorem gRng : Tryz.prog.globalNamed "strconv.ErrRange" = some 3 := by kernel_rfl
theorem parseFloat_rng (s : ByteArray) (hs : s.size ≤ 100) (n : Nat) (hn : n = s.size) (b : Nat) (w : World) (hc : RCtx w)
    (h : Calls Tryz.prog 46 #[.string s] w fun e w' => e = .returned (.tuple #[.float .f64 b, .int .i64 n, .iface 53 (.int .i64 1)]) ∧ w = w') :
    Calls Tryz.prog 16 #[.string s, .int .i64 64] w fun e w' => ∃ N, e = .returned (.tuple #[.float .f64 b, .iface 54 (.pointer (some ⟨N, 0, none⟩))]) ∧ Below w.heap.size w w' := by
  obtain ⟨te, pe, hv⟩ := hc.rng
  have hcell : w.cell? ⟨3, 0, none⟩ = some (.iface te pe) := by
    have := World.var?_cell gRng hv 0
    simpa using this
  have HP := Lib.hid (iparse s n hn b _ w h)
  have hE := Any.strconv_toError_range Tryz.laysC245 ⟨#[80, 97, 114, 115, 101, 70, 108, 111, 97, 116]⟩ s 0 64 (.iface te pe) w (by omega) hcell (.inr ⟨te, pe, rfl⟩)
  have HE := Lib.hid hE
  clear h hn hE hv hcell hc
  go_enter Tryz.func16, Tryz.ntmps16
  go_wp2_with fail
  refine HP.out.mono ?_; rintro en w' ⟨rfl, rfl⟩
  go_wp2_with fail
  refine HE.out.mono ?_; rintro en w' ⟨N, rfl, _, _, hb⟩
  go_wp2_with fail
  go_ret2
  exact ⟨N, rfl, hb⟩

/-! real.after and real.digits, at what is written out. -/
set_option maxRecDepth 100000 in
theorem after_end (s t : ByteArray) (i : Int) (_h0 : 0 ≤ i) (hi : (s.size : Int) ≤ i) (_hi2 : i ≤ 100) (t0 : 1 ≤ t.size) (t1 : t.size ≤ 1) (w : World) :
    Calls Tryz.prog 19 #[.string s, .int .i64 i, .string t] w fun e w' => e = .returned (.int .i64 i) ∧ ∃ n, w' = w.drewN n := by
  have hd : decide (i < (s.size : Int)) = false := by simp; omega
  go_enter Tryz.func19, Tryz.ntmps19
  go_wp2_with fail
  refine wp_loop_rounds 2 ?_
  rw [rounds_succ]
  go_wp2_with fail
  go_quiet (fail)
  go_wp2_with fail
  rw [rounds_succ]
  go_wp2_with fail
  go_ret
  exact ⟨rfl, _, rfl⟩
set_option maxRecDepth 100000 in
theorem after_miss (s t : ByteArray) (i : Nat) (hi : i < s.size) (_hi2 : i ≤ 100) (t0 : 1 ≤ t.size) (t1 : t.size ≤ 1) (c d : Int) (c0 : (s[i].toNat : Int) = c) (d0 : (t[0].toNat : Int) = d) (hcd : c ≠ d) (w : World) :
    Calls Tryz.prog 19 #[.string s, .int .i64 i, .string t] w fun e w' => e = .returned (.int .i64 i) ∧ ∃ n, w' = w.drewN n := by
  have hd : decide (i < s.size) = true := by simp; omega
  have kcd : (c == d) = false := by rw [beq_eq_false_iff_ne]; exact hcd
  go_enter Tryz.func19, Tryz.ntmps19
  go_wp2_with fail
  refine wp_loop_rounds 2 ?_
  rw [rounds_succ]
  go_wp2_with fail
  go_quiet (fail)
  go_wp2_with fail
  rw [rounds_succ]
  go_wp2_with fail
  go_ret
  exact ⟨rfl, _, rfl⟩
set_option maxRecDepth 100000 in
theorem after_hit (s t : ByteArray) (i : Nat) (hi : i < s.size) (hi2 : i ≤ 100) (t0 : 1 ≤ t.size) (_t1 : t.size ≤ 1) (c : Int) (c0 : (s[i].toNat : Int) = c) (d0 : (t[0].toNat : Int) = c) (w : World) :
    Calls Tryz.prog 19 #[.string s, .int .i64 i, .string t] w fun e w' => e = .returned (.int .i64 ((i : Int) + 1)) ∧ ∃ n, w' = w.drewN n := by
  have hd : decide (i < s.size) = true := by simp; omega
  have kcd : (c == c) = true := by simp
  go_enter Tryz.func19, Tryz.ntmps19
  go_wp2_with fail
  refine wp_loop_rounds 1 ?_
  rw [rounds_succ]
  go_wp2_with fail
  go_quiet (fail)
  go_wp2_with fail
  go_ret
  exact ⟨rfl, _, rfl⟩

set_option maxRecDepth 100000 in
/-- '+-' at a byte that is neither. -/
theorem after_miss2 (s t : ByteArray) (i : Nat) (hi : i < s.size) (_hi2 : i ≤ 100) (t0 : 2 ≤ t.size) (t1 : t.size ≤ 2) (c d e : Int) (c0 : (s[i].toNat : Int) = c) (d0 : (t[0].toNat : Int) = d) (e0 : (t[1].toNat : Int) = e) (hcd : c ≠ d) (hce : c ≠ e) (w : World) :
    Calls Tryz.prog 19 #[.string s, .int .i64 i, .string t] w fun e w' => e = .returned (.int .i64 i) ∧ ∃ n, w' = w.drewN n := by
  have hd : decide (i < s.size) = true := by simp; omega
  have kcd : (c == d) = false := by rw [beq_eq_false_iff_ne]; exact hcd
  have kce : (c == e) = false := by rw [beq_eq_false_iff_ne]; exact hce
  go_enter Tryz.func19, Tryz.ntmps19
  go_wp2_with fail
  refine wp_loop_rounds 3 ?_
  rw [rounds_succ]
  go_wp2_with fail
  go_quiet (fail)
  go_wp2_with fail
  rw [rounds_succ]
  go_wp2_with fail
  go_quiet (fail)
  go_wp2_with fail
  rw [rounds_succ]
  go_wp2_with fail
  go_ret
  exact ⟨rfl, _, rfl⟩

/-- Is the byte a digit? -/
def isDig (s : ByteArray) (i : Nat) : Prop := ∃ h : i < s.size, 48 ≤ s[i].toNat ∧ s[i].toNat ≤ 57
set_option maxHeartbeats 1000000 in
set_option maxRecDepth 100000 in
/-- real.digits: behind the digits from i on. -/
theorem digits_calls (s : ByteArray) (i k : Nat) (hk : i ≤ k) (_hks : k ≤ s.size) (hs : s.size ≤ 100) (hd : ∀ j, i ≤ j → j < k → isDig s j) (he : ¬ isDig s k) (w : World) :
    Calls Tryz.prog 20 #[.string s, .int .i64 i] w fun e w' => e = .returned (.tuple #[.int .i64 k, .bool (decide (i < k))]) ∧ w = w' := by
  have Hd := Lib.hid hd
  have He := Lib.hid he
  clear hd he
  go_enter Tryz.func20, Tryz.ntmps20
  go_wp2_with fail
  go_loop [6] (fun v => ∃ j : Nat, i ≤ j ∧ j ≤ k ∧ v = .int .i64 j) (fun v => k - (intOf v).toNat)
  case atStart => exact ⟨i, Nat.le_refl _, hk, rfl⟩
  case round =>
    obtain ⟨j, hj0, hj1, rfl⟩ := hrel
    by_cases hjk : j < k
    · obtain ⟨hjs, a, b⟩ := Hd.out j hj0 hjk
      go_wp2_with fail
      go_round
      case rel => exact ⟨j + 1, by omega, by omega, by go_num⟩
      case measure => simp [intOf]; omega
    · have hjk' : j = k := by omega
      have Hj := Lib.hid hjk'
      clear hjk'
      by_cases hjs : j < s.size
      · have hb : s[j].toNat < 48 ∨ 57 < s[j].toNat := by
          have h := He.out
          rw [← Hj.out] at h
          by_cases h1 : 48 ≤ s[j].toNat
          · by_cases h2 : s[j].toNat ≤ 57
            · exact absurd ⟨hjs, h1, h2⟩ h
            · omega
          · omega
        rcases hb with hb | hb
        all_goals
          go_wp2_with fail
          go_ret2
          rw [← Hj.out]
          refine ⟨?_, rfl⟩
          simp
      · go_wp2_with fail
        go_ret2
        rw [← Hj.out]
        refine ⟨?_, rfl⟩
        simp
end Go.Proofs.YtnibfebfgdhfgaaGreatDoor
