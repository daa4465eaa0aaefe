/- The law of signs over the translated program. Conditions: the tables hold what start-up lays. -/
import Derived.Test.YtblnikccdcihpaaGreatDoorFe6
namespace Go.Proofs.YtblnikccdcihpaaGreatDoor
open Go.ChangeShapes Go.WideShapes Go.ChangeAt Go.RowKit Go.Sort

theorem self_order (b : Nat) (hb : b < 18446744073709551616) : (FloatKind.f64.format.order b b != some .eq) = decide (9218868437227405312 < b % 9223372036854775808) := by
  by_cases hn : 9218868437227405312 < b % 9223372036854775808
  · rw [fmt_order, Ord.order_nan_l b b hn, decide_eq_true hn]; rfl
  · rw [fmt_order, Ord.order_eq b b hb hb (by unfold Ord.rung; omega) (by unfold Ord.rung; omega), Ord.cmpI, if_neg (by omega), if_pos rfl, decide_eq_false hn]
    rfl

set_option maxHeartbeats 1000000 in
set_option maxRecDepth 100000 in
theorem realSigns_nan (a b : Nat) (ha : a < 18446744073709551616) (hb : b < 18446744073709551616) (hn : 9218868437227405312 < a % 9223372036854775808 ∨ 9218868437227405312 < b % 9223372036854775808) (w : World) (hc : RCtx w) :
    Calls Tryz.prog 8 #[.int .u64 a, .int .u64 b] w fun e w' => e = .returned (.bool true) ∧ Below w.heap.size w w' := by
  have H6 := Lib.hid alive_calls
  have O1 := order_calls a b ha hb
  have O2 := order_calls b a hb ha
  have oa := self_order a ha
  have ob := self_order b hb
  have anti := orderN_anti a b
  have bd := orderN_bd b a
  generalize orderN a b = p at *
  generalize orderN b a = q at *
  have O1 := Lib.hid O1
  have O2 := Lib.hid O2
  have k1 : (p == -q) = true := by rw [beq_iff_eq]; exact anti
  have hab : (FloatKind.f64.format.order a a != some .eq) = true ∨ ((FloatKind.f64.format.order a a != some .eq) = false ∧ (FloatKind.f64.format.order b b != some .eq) = true) := by
    rw [oa, ob]
    by_cases x : 9218868437227405312 < a % 9223372036854775808
    · exact .inl (decide_eq_true x)
    · exact .inr ⟨decide_eq_false x, decide_eq_true (by omega)⟩
  have Hab := Lib.hid hab
  have Hc := Lib.hid hc
  have ta : ((a : Int)).toNat = a := by omega
  have tb : ((b : Int)).toNat = b := by omega
  clear hc anti hab hn oa ob
  rcases Hab.out with ka | ⟨ka, kb⟩
  all_goals
    go_enter Tryz.func8, Tryz.ntmps8
    go_wp2_with fail
    refine (H6.out _ Hc.out).mono ?_; rintro en w3 ⟨rfl, hb3⟩
    go_wp2_with fail
    refine (O1.out _).mono ?_; rintro en w' ⟨rfl, rfl⟩
    go_wp2_with fail
    refine (O2.out _).mono ?_; rintro en w' ⟨rfl, rfl⟩
    go_wp2_with fail
    go_ret
    exact ⟨rfl, hb3⟩

theorem digs_le20 (d : Nat) (h : d < 18446744073709551616) : (digs d).length ≤ 20 := by
  have := Lib.nDigits_le20 d h
  have h2 := stripTo_le (Lib.decDigits d) (Lib.nDigits d)
  rw [digs_length]
  omega
theorem fixText_len (d : Nat) (p : Int) (h : d < 18446744073709551616) (h0 : -400 ≤ p) (h1 : p ≤ 400) : (fixText false d p).length ≤ 1000 := by
  have e0 : sgn false = [] := rfl
  have h2 := digs_le20 d h
  have h3 := Lib.nDigits_le20 d h
  unfold fixText
  simp only [e0]
  split
  · simp only [List.length_append, List.length_replicate, List.length_cons, List.length_nil]; omega
  · split
    · simp only [List.length_append, List.length_take, List.length_drop, List.length_cons, List.length_nil]; omega
    · simp only [List.length_append, List.length_replicate, List.length_nil]; omega
theorem eText_len (d : Nat) (p : Int) (h : d < 18446744073709551616) : (eText false d p).length ≤ 1000 := by
  have e0 : sgn false = [] := rfl
  have h2 := digs_le20 d h
  have hm : (mantText (digs d)).length ≤ 22 := by
    unfold mantText
    split
    · simp
    · simp only [List.length_append, List.length_drop, List.length_cons, List.length_nil]; omega
  have he : ∀ n x, (expText n x).length ≤ 5 := by
    intro n x
    unfold expText
    simp only [List.length_append, List.length_cons, List.length_nil]
    split
    · simp
    · split <;> simp
  unfold eText
  have := he (decide ((Lib.nDigits d : Int) + p - 1 < 0)) ((Lib.nDigits d : Int) + p - 1).natAbs
  rw [e0, List.length_append, List.length_append, List.length_nil]
  omega
theorem bodyText_len (r : Nat) (hr : r ≤ 9218868437227405312) : (bodyText r).length ≤ 1000 := by
  unfold bodyText
  split
  · simp
  · split
    · simp
    · have hf : (shortDP (r / 4503599627370496) (r % 4503599627370496)).1 < 18446744073709551616 ∧ -400 ≤ (shortDP (r / 4503599627370496) (r % 4503599627370496)).2 ∧ (shortDP (r / 4503599627370496) (r % 4503599627370496)).2 ≤ 400 := by
        by_cases he : r / 4503599627370496 = 0
        · rw [he]
          exact (short_fits_sub _ _ (by omega) (by omega) rfl).2
        · exact (short_fits_normal _ _ (by omega) (by omega) (by omega)).2
      split
      · exact eText_len _ _ hf.1
      · exact fixText_len _ _ hf.1 hf.2.1 hf.2.2

set_option maxHeartbeats 1000000 in
set_option maxRecDepth 100000 in
theorem realSigns_num (a b : Nat) (ha : a < 18446744073709551616) (hb : b < 18446744073709551616) (na : a % 9223372036854775808 ≤ 9218868437227405312) (nb : b % 9223372036854775808 ≤ 9218868437227405312) (w : World) (hc : RCtx w) :
    Calls Tryz.prog 8 #[.int .u64 a, .int .u64 b] w fun e w' => e = .returned (.bool true) ∧ Below w.heap.size w w' := by
  have H6 := Lib.hid alive_calls
  have hfa := flip_lt a ha
  have hfb := flip_lt b hb
  have O1 := order_calls a b ha hb
  have O2 := order_calls (flip a) (flip b) hfa hfb
  have T1 := realText_all a ha na
  have T2 := realText_all (flip a) hfa (by rw [flip_rung a ha]; exact na)
  rw [flip_below a ha, flip_rung a ha] at T2
  have oa := self_order a ha
  rw [decide_eq_false (by omega)] at oa
  have ob := self_order b hb
  rw [decide_eq_false (by omega)] at ob
  have fo := flip_order a b ha hb na nb
  have bd := orderN_bd (flip a) (flip b)
  have bl := bodyText_len (a % 9223372036854775808) na
  have x1 := xor_hi a ha
  have x2 := xor_hi b hb
  generalize bodyText (a % 9223372036854775808) = l at *
  generalize below a = s at *
  generalize orderN a b = p at *
  generalize orderN (flip a) (flip b) = q at *
  generalize flip a = a' at *
  generalize flip b = b' at *
  have O1 := Lib.hid O1
  have O2 := Lib.hid O2
  have k1 : (p == -q) = true := by rw [beq_iff_eq]; omega
  have Hc := Lib.hid hc
  have ta : ((a : Int)).toNat = a := by omega
  have tb : ((b : Int)).toNat = b := by omega
  have ta' : ((a' : Int)).toNat = a' := by omega
  have tb' : ((b' : Int)).toNat = b' := by omega
  clear hc fo
  have cat : (⟨#[45]⟩ : ByteArray) ++ ⟨l.toArray⟩ = ⟨(45 :: l).toArray⟩ := by
    apply ByteArray.ext
    show (⟨#[45]⟩ ++ ⟨l.toArray⟩ : ByteArray).data = _
    rw [ByteArray.data_append]
    simp
  have lx : (⟨(45 :: l).toArray⟩ : ByteArray).size = l.length + 1 := by show (45 :: l).toArray.size = _; simp
  have ly : (⟨l.toArray⟩ : ByteArray).size = l.length := by show l.toArray.size = _; simp
  have bx : (⟨(45 :: l).toArray⟩ : ByteArray).size ≤ 1001 := by omega
  have by' : (⟨l.toArray⟩ : ByteArray).size ≤ 1001 := by omega
  have ne : (⟨l.toArray⟩ : ByteArray) ≠ (⟨#[45]⟩ : ByteArray) ++ ⟨(45 :: l).toArray⟩ := by
    intro h
    have h2 := congrArg ByteArray.size h
    rw [ByteArray.size_append, lx, ly] at h2
    omega
  have eT : ((⟨(45 :: l).toArray⟩ : ByteArray).toList == ((⟨#[45]⟩ : ByteArray) ++ ⟨l.toArray⟩).toList) = true := by rw [cat, beq_self_eq_true]
  have eF : ((⟨l.toArray⟩ : ByteArray).toList == ((⟨#[45]⟩ : ByteArray) ++ ⟨(45 :: l).toArray⟩).toList) = false := by
    rw [beq_eq_false_iff_ne]
    intro h
    rw [ByteArray.toList_eq, ByteArray.toList_eq] at h
    exact ne (ByteArray.ext (Array.toList_inj.mp h))
  cases s with
  | true =>
    have hx : sgn true ++ l = 45 :: l := rfl
    have hy : sgn (!true) ++ l = l := rfl
    rw [hx] at T1
    rw [hy] at T2
    generalize (⟨(45 :: l).toArray⟩ : ByteArray) = X at *
    generalize (⟨l.toArray⟩ : ByteArray) = Y at *
    have T1 := Lib.hid T1
    have T2 := Lib.hid T2
    clear hx hy lx ly cat ne
    go_enter Tryz.func8, Tryz.ntmps8
    go_wp2_with fail
    refine (H6.out _ Hc.out).mono ?_; rintro en w3 ⟨rfl, hb3⟩
    have hc3 := Hc.out.below hb3
    go_wp2_with fail
    refine (T1.out _ hc3).mono ?_; rintro en w4 ⟨rfl, hb4⟩
    have hc4 := hc3.below hb4
    go_wp2_with fail
    refine (T2.out _ hc4).mono ?_; rintro en w5 ⟨rfl, hb5⟩
    have hb05 := bstep (bstep hb3 hb4) hb5
    clear hc3 hc4 hb3 hb4 hb5
    go_wp2_with fail
    refine (O1.out _).mono ?_; rintro en w' ⟨rfl, rfl⟩
    go_wp2_with fail
    refine (O2.out _).mono ?_; rintro en w' ⟨rfl, rfl⟩
    go_wp2_with fail
    go_ret
    exact ⟨rfl, hb05⟩
  | false =>
    have hx : sgn (!false) ++ l = 45 :: l := rfl
    have hy : sgn false ++ l = l := rfl
    rw [hy] at T1
    rw [hx] at T2
    generalize (⟨(45 :: l).toArray⟩ : ByteArray) = X at *
    generalize (⟨l.toArray⟩ : ByteArray) = Y at *
    have T1 := Lib.hid T1
    have T2 := Lib.hid T2
    clear hx hy lx ly cat ne
    go_enter Tryz.func8, Tryz.ntmps8
    go_wp2_with fail
    refine (H6.out _ Hc.out).mono ?_; rintro en w3 ⟨rfl, hb3⟩
    have hc3 := Hc.out.below hb3
    go_wp2_with fail
    refine (T1.out _ hc3).mono ?_; rintro en w4 ⟨rfl, hb4⟩
    have hc4 := hc3.below hb4
    go_wp2_with fail
    refine (T2.out _ hc4).mono ?_; rintro en w5 ⟨rfl, hb5⟩
    have hb05 := bstep (bstep hb3 hb4) hb5
    clear hc3 hc4 hb3 hb4 hb5
    go_wp2_with fail
    refine (O1.out _).mono ?_; rintro en w' ⟨rfl, rfl⟩
    go_wp2_with fail
    refine (O2.out _).mono ?_; rintro en w' ⟨rfl, rfl⟩
    go_wp2_with fail
    go_ret
    exact ⟨rfl, hb05⟩

theorem realSigns (a b : Nat) (ha : a < 18446744073709551616) (hb : b < 18446744073709551616) (w : World) (hc : RCtx w) :
    Calls Tryz.prog 8 #[.int .u64 a, .int .u64 b] w fun e w' => e = .returned (.bool true) ∧ Below w.heap.size w w' := by
  by_cases hn : 9218868437227405312 < a % 9223372036854775808 ∨ 9218868437227405312 < b % 9223372036854775808
  · exact realSigns_nan a b ha hb hn w hc
  · exact realSigns_num a b ha hb (by omega) (by omega) w hc

end Go.Proofs.YtblnikccdcihpaaGreatDoor
