/- A number as text at the format e: ftoa64 over the translated program, at the smallest numbers. Conditions: the tables hold what start-up lays. -/
import Derived.Test.YtlebpaneignfaaaDoorFe3
namespace Go.Proofs.YtlebpaneignfaaaDoor
open Go.ChangeShapes Go.WideShapes Go.ChangeAt Go.RowKit Go.Sort

theorem bitLen_bounds (x : Nat) (h0 : 1 ≤ x) (h1 : x < 18446744073709551616) : 1 ≤ Lib.bitLen x ∧ 2 ^ (Lib.bitLen x - 1) ≤ x ∧ x < 2 ^ Lib.bitLen x :=
  Lib.bitLenAux_bounds 64 x (by omega) (by omega)

/-- How far the bits of a small number are moved up. -/
theorem sub_z (fr : Nat) (h0 : 1 ≤ fr) (h1 : fr < 4503599627370496) : ∃ z, 64 - Lib.bitLen fr = z ∧ 12 ≤ z ∧ z ≤ 63 ∧ 9223372036854775808 ≤ fr * 2 ^ z ∧ fr * 2 ^ z ≤ 18446744073709551616 - 2 ^ z := by
  obtain ⟨a, b, c⟩ := bitLen_bounds fr h0 (by omega)
  have hL : Lib.bitLen fr ≤ 52 := Lib.bitLen_le fr 52 (by omega) (by omega)
  generalize Lib.bitLen fr = L at *
  refine ⟨64 - L, rfl, by omega, by omega, ?_, ?_⟩
  · calc 9223372036854775808 = 2 ^ (L - 1) * 2 ^ (64 - L) := by rw [← Nat.pow_add, show L - 1 + (64 - L) = 63 by omega]
      _ ≤ fr * 2 ^ (64 - L) := Nat.mul_le_mul_right _ b
  · have h : (fr + 1) * 2 ^ (64 - L) ≤ 2 ^ L * 2 ^ (64 - L) := Nat.mul_le_mul_right _ c
    rw [← Nat.pow_add, show L + (64 - L) = 64 by omega, Nat.add_mul, Nat.one_mul] at h
    omega
theorem pow_z (z : Nat) (h0 : 12 ≤ z) (h1 : z ≤ 63) : 2048 ≤ 2 ^ (z - 1) ∧ 2 ^ z = 2 * 2 ^ (z - 1) ∧ 2 ^ (z - 1) ≤ 4611686018427387904 := by
  refine ⟨(Nat.pow_le_pow_right (by omega) (show 11 ≤ z - 1 by omega) : 2 ^ 11 ≤ 2 ^ (z - 1)), ?_, (Nat.pow_le_pow_right (by omega) (show z - 1 ≤ 62 by omega) : 2 ^ (z - 1) ≤ 2 ^ 62)⟩
  conv => lhs; rw [show z = (z - 1) + 1 by omega, Nat.pow_succ, Nat.mul_comm]
theorem short_subz (fr z : Nat) (h0 : 1 ≤ fr) (h1 : fr < 4503599627370496) (hz : 64 - Lib.bitLen fr = z) (w : World) (hc : TCtx w) :
    Calls Tryd.prog 60 #[.int .u64 (fr * 2 ^ z : Nat), .int .i64 (-1074 - (z : Int))] w (ShortPost w (shortDP 0 fr)) := by
  obtain ⟨z', hz', hz0, hz1, hm0, hm1⟩ := sub_z fr h0 h1
  rw [hz] at hz'
  subst hz'
  unfold shortDP
  rw [if_pos rfl]
  simp only [hz]
  exact short_sub (fr * 2 ^ z) z _ hm0 hz0 hz1 hm1 rfl w hc
theorem short_fits_sub (fr z : Nat) (h0 : 1 ≤ fr) (h1 : fr < 4503599627370496) (hz : 64 - Lib.bitLen fr = z) :
    1 ≤ (shortDP 0 fr).1 ∧ (shortDP 0 fr).1 < 18446744073709551616 ∧ -400 ≤ (shortDP 0 fr).2 ∧ (shortDP 0 fr).2 ≤ 400 := by
  obtain ⟨z', hz', hz0, hz1, hm0, hm1⟩ := sub_z fr h0 h1
  rw [hz] at hz'
  subst hz'
  obtain ⟨p0, p1, p2⟩ := pow_z z hz0 hz1
  unfold shortDP
  rw [if_pos rfl]
  simp only [hz]
  generalize hm : fr * 2 ^ z = m at *
  have ho : m / 2 ^ z % 2 ≤ 1 := by omega
  generalize m / 2 ^ z % 2 = odd at *
  rw [p1] at hm1
  generalize 2 ^ (z - 1) = y at *
  have hs : -((-1074 - (z : Int)) + l2p10 (((672 : Nat) : Int) - 348) + 3) = (z : Int) - 5 := by
    rw [show l2p10 (((672 : Nat) : Int) - 348) = 1076 from rfl]; omega
  exact ⟨shortCore_pos _ _ _ _ _ _ (by omega) (by rw [hs]; omega) (by rw [hs]; omega) (by omega) (by omega) (by omega) (by omega), shortCore_lt _ _ _ _ _ _ (by omega) (by rw [hs]; omega) (by omega) (by omega) (by omega) ho⟩
theorem lenz (u z : Nat) (h1 : u < 18446744073709551616) (hz : 64 - Lib.bitLen u = z) (w : World) : Calls Tryd.prog 45 #[.int .u64 u] w fun e w' => e = .returned (.int .i64 (64 - (z : Int))) ∧ w = w' := by
  have h := Any.bits_Len64 Tryd.lays129 (u : Int) w (by omega) (by omega)
  rw [show ((u : Int)).toNat = u by omega] at h
  have hl : Lib.bitLen u ≤ 64 := Lib.bitLen_le u 64 (by omega) (by omega)
  rw [show ((Lib.bitLen u : Nat) : Int) = 64 - (z : Int) by omega] at h
  exact h.mono fun _ _ ⟨a, b⟩ => ⟨a, b.symm⟩

set_option maxHeartbeats 2000000 in
set_option maxRecDepth 100000 in
theorem ftoa_sub_e (b : Nat) (neg : Bool) (fr : Nat) (hb : Bits3 b neg 0 fr) (hfr0 : 1 ≤ fr) (B : Nat) (w : World) (v : Value) (hown : w.ownsRow B 5 1 v 0 []) (hB : B ≤ w.heap.size) (hc : TCtx w) :
    Calls Tryd.prog 37 #[v, .float .f64 b, .int .u8 101, .int .i64 (-1)] w (FmtPost B w (eText neg (shortDP 0 fr).1 (shortDP 0 fr).2)) := by
  obtain ⟨z, hz, hz0, hz1, hm0, hm1⟩ := sub_z fr hfr0 hb.frlt
  have hS := short_subz fr z hfr0 hb.frlt hz
  have hF := short_fits_sub fr z hfr0 hb.frlt hz
  generalize shortDP 0 fr = dp at *
  obtain ⟨d, p⟩ := dp
  simp only [] at hF
  have Hc := Lib.hid hc
  have HS := Lib.hid hS
  have hsg := hb.hsg
  have hex := hb.hex
  have hfr := hb.hfr
  have hflt := hb.frlt
  have hblt := hb.lt
  have Hown := Lib.hid hown
  clear hc hS hown
  have HB := Lib.hid hb
  clear hb
  go_enter Tryd.func37, Tryd.ntmps37
  go_wp2_with fail
  go_quiet (fail)
  have hown1 : (w.drewN nq).ownsRow B 5 1 v 0 [] := Hown.out
  have hB1 : B ≤ (w.drewN nq).heap.size := hB
  have hc1 : TCtx (w.drewN nq) := Hc.out.below ⟨rfl, rfl, rfl, Nat.le_refl _, fun _ _ => rfl⟩
  have hbel1 : Below B w (w.drewN nq) := ⟨rfl, rfl, rfl, Nat.le_refl _, fun _ _ => rfl⟩
  generalize w.drewN nq = w1 at hown1 hB1 hc1 hbel1 ⊢
  have Hc1 := Lib.hid hc1
  have Hown1 := Lib.hid hown1
  clear hown1 hc1
  have hwr : IntKind.u64.wrap ((fr : Int) * 2 ^ z) = ((fr * 2 ^ z : Nat) : Int) := by
    have hp := Nat.two_pow_pos z
    rw [show (fr : Int) * 2 ^ z = ((fr * 2 ^ z : Nat) : Int) by simp, IntKind.wrap_u64]
    generalize fr * 2 ^ z = q at *
    omega
  have Hwr := Lib.hid hwr
  clear hwr
  have hne0 : ((fr : Int) == 0) = false := by rw [beq_eq_false_iff_ne]; omega
  have HLn := Lib.hid (lenz fr z (by omega) hz)
  go_wp2_with fail
  refine (HLn.out _).mono ?_; rintro en w' ⟨rfl, rfl⟩
  go_wp2_with fail
  have hz32 : (w1.alloc (.cells zeros32 88)).heap[w1.heap.size]? = some (.cells zeros32 88 (0, 0)) := heap_alloc_new w1 _
  have hb32 : Below w1.heap.size w1 (w1.alloc (.cells zeros32 88)) := (Below.refl _ _).alloc (Nat.le_refl _) _
  have ho32 : (w1.alloc (.cells zeros32 88)).ownsRow B 5 1 v 0 [] := Hown1.out.alloc _
  have hbB : Below B w (w1.alloc (.cells zeros32 88)) := hbel1.alloc hB1 _
  have hsz : (w1.alloc (.cells zeros32 88)).heap.size = w1.heap.size + 1 := by simp
  have hc32 := Hc1.out.below hb32
  have hpos := heap_pos Hc1.out
  rw [zeros32_lit, show 64 - (64 - z) = z by omega, show -1022 - (64 - (64 - (z : Int))) - 52 = -1074 - (z : Int) by omega, Hwr.out]
  generalize hw2 : w1.alloc (.cells zeros32 88) = w2 at *
  generalize hBb : w1.heap.size = Bb at *
  have hBBb : B ≤ Bb := hB1
  clear hw2 hb32
  refine (HS.out _ hc32).mono ?_
  rintro en w3 ⟨rfl, hb3⟩
  have hz3 : w3.heap[Bb]? = some (.cells zeros32 88 (0, 0)) := by rw [hb3.block Bb (by omega)]; exact hz32
  have ho3 := own_below ho32 hb3
  have hb03 : Below B w w3 := hbB.trans (hb3.mono (by omega))
  have hc3 := hc32.below hb3
  have hs3 := hb3.size
  have hsd := fun W => setDigits_calls d p hF.2.1 (by omega) (by omega) Bb 88 W
  unfold SetPost at hsd
  simp only [← digs_length] at hsd
  have hvlt : ∀ k, v.ownBlock = some k → k < Bb := fun k hk => by rw [← hBb]; exact (Hown1.out.lt k hk).2
  have hn20 := Lib.nDigits_le20 d hF.2.1
  have hd20 : (digs d).length ≤ 20 := by rw [digs_length]; have := stripTo_le (Lib.decDigits d) (Lib.nDigits d); omega
  have Hz3 := Lib.hid hz3
  have Ho3 := Lib.hid ho3
  have Hc3 := Lib.hid hc3
  have Hsd := Lib.hid hsd
  clear hz32 ho32 hc32 hb3 hz3 ho3 hc3 hsd
  go_wp2_with fail
  go_region_with (first
    | (go_at_call 33; refine (numDigits_calls d hF.1 hF.2.1 _ (by exact Hc3.out.below ⟨rfl, rfl, rfl, Nat.le_refl _, fun _ _ => rfl⟩)).mono ?_; rintro en w' ⟨rfl, rfl⟩)
    | (go_at_call 55; refine (Hsd.out _ (by exact Hz3.out)).mono ?_; rintro en w' ⟨rfl, hD, hbd⟩))
  all_goals
    have hbd' : Below Bb w3 w' := ⟨hbd.os, hbd.tape, hbd.output, hbd.size, hbd.block⟩
    have ho4 := own_belowB Ho3.out hvlt hbd'
    have hb4 := hb03.trans (hbd'.mono hBBb)
    have hsz4 := hbd'.size
    clear hbd hbd'
    have HD := Lib.hid hD
    have Ho4 := Lib.hid ho4
    clear hD ho4
    go_wp2_with fail
    have hO : Own B Bb 88 (digs d) w' w' v [] := ⟨Ho4.out, .inr (by unfold digs; exact HD.out.take _), Below.refl _ _, by omega⟩
    refine (fmtE_all B Bb 88 (by decide) (by omega) d p hF.1 hF.2.1 (by omega) (by omega) neg w' v hO).mono ?_
    rintro en w5 ⟨v5, rfl, hr5, hb5⟩
    go_wp2_with fail
    go_ret
    exact ⟨v5, rfl, hr5, hb4.trans hb5⟩


end Go.Proofs.YtlebpaneignfaaaDoor
