/- Package value's Copy and List. Conditions: no value deeper than 65536 lists, and a count that fits. -/
import Derived.Test.YtiigfcggdjcmfaaDoorVa4
namespace Go.Proofs.YtiigfcggdjcmfaaDoor
open Go.ChangeShapes Go.WideShapes Go.ChangeAt Go.RowKit

set_option maxHeartbeats 1000000 in
theorem copy_calls (v : Val) (S : Nat → Prop) (w : World) (hS : ∀ b, S b → b < w.heap.size) (hl : Lies S w v) (hn : v.nest ≤ 65536) (hc : v.count ≤ 1099511627776) :
    Calls Tryd.prog 30 #[v.agg] w (Copied v w) := by
  cases v with
  | no => exact hl.elim
  | mk k t z r f a c n K =>
    obtain ⟨f1, f2, f3, f4, f5, f6⟩ := start_facts w k t z r f a c n K
    have hcnt := countOf_calls (.mk k t z r f a c n K) S _ w.heap.size 0 65536 (hl.below f2 hS) f3 hn (by omega) hc
    have hcp := copyOf_calls (.mk k t z r f a c n K) S _ (fun b hb => Nat.lt_of_lt_of_le (hS b hb) f2.size) (hl.below f2 hS)
    have Hcnt := Lib.hid hcnt
    have Hcp := Lib.hid hcp
    have F1 := Lib.hid f1
    have F2 := Lib.hid f2
    have F4 := Lib.hid f4
    have F6 := Lib.hid f6
    clear hl hn hc f1 f2 f3 f4 f5 f6 hcnt hcp
    unfold Val.agg at *
    go_enter Tryd.func30, Tryd.ntmps30
    go_wp2_with fail
    refine Hcnt.out.mono ?_; rintro en w' ⟨rfl, rfl⟩
    go_wp2_with fail
    refine Hcp.out.mono ?_; rintro en w1 ⟨v', rfl, htw, hb, hnew⟩
    cases v' with
    | no => exact hnew.elim
    | mk k3 t3 z3 r3 f3 a3 c3 n3 K3 =>
      unfold Val.agg
      rw [F1.out] at hb hnew
      obtain ⟨r0, r1, r2, r3', r4, r5⟩ := F4.out.below hb (by omega)
      replace r1 : w1.cell? ⟨w.heap.size + 1, 1, none⟩ = _ := r1
      replace r2 : w1.cell? ⟨w.heap.size + 1, 2, none⟩ = _ := r2
      replace r3' : w1.cell? ⟨w.heap.size + 1, 3, none⟩ = _ := r3'
      replace r4 : w1.cell? ⟨w.heap.size + 1, 4, none⟩ = _ := r4
      replace r5 : w1.cell? ⟨w.heap.size + 1, 5, none⟩ = _ := r5
      have fr : ∀ i, i < 6 → w1.frozen? ⟨w.heap.size + 1, i, none⟩ = false := fun i hi => (hb.frozen (p := ⟨_, i, none⟩) (by show w.heap.size + 1 < w.heap.size + 1 + 1; omega)).trans (F6.out i hi)
      have fr0 := fr 0 (by omega)
      have fr1 := fr 1 (by omega)
      have fr2 := fr 2 (by omega)
      have fr3 := fr 3 (by omega)
      have fr4 := fr 4 (by omega)
      have fr5 := fr 5 (by omega)
      have Hb := Lib.hid (F2.out.trans (hb.mono (by omega)))
      have Hnew := Lib.hid (hnew.put (w.heap.size + 1) (by omega) (.mk k3 t3 z3 r3 f3 a3 c3 n3 K3) (lo' := w.heap.size) (by omega))
      have Htw := Lib.hid htw
      clear fr hb hnew htw
      go_wp2_with fail
      refine bodyPost_ret (v := .agg #[.int .i64 k3, .string t3, .int .i64 z3, .float .f64 r3, .bool f3, .slice a3 n3 c3]) (by simp [results, Tryd.results30, go_sem, r0, r1, r2, r3', r4, r5]) rfl
        ⟨.mk k3 t3 z3 r3 f3 a3 c3 n3 K3, rfl, Htw.out, ?_, Hnew.out⟩
      exact putVal_below Hb.out (by omega) 0 (.mk k3 t3 z3 r3 f3 a3 c3 n3 K3)

theorem list_start (w : World) (K : Nat → Val) :
    (w.alloc (.cells #[.int .i64 0, .string ⟨#[]⟩, .int .i64 0, .float .f64 0, .bool false, .slice none 0 0] 25)).heap.size = w.heap.size + 1 ∧
    Below w.heap.size w (w.alloc (.cells #[.int .i64 0, .string ⟨#[]⟩, .int .i64 0, .float .f64 0, .bool false, .slice none 0 0] 25)) ∧
    At (w.alloc (.cells #[.int .i64 0, .string ⟨#[]⟩, .int .i64 0, .float .f64 0, .bool false, .slice none 0 0] 25)) w.heap.size 0 (.mk 0 ⟨#[]⟩ 0 0 false none 0 0 K) ∧
    (∀ i, i < 6 → (w.alloc (.cells #[.int .i64 0, .string ⟨#[]⟩, .int .i64 0, .float .f64 0, .bool false, .slice none 0 0] 25)).frozen? ⟨w.heap.size, i, none⟩ = false) := by
  refine ⟨by simp, (Below.refl _ _).alloc (Nat.le_refl _) _, ⟨?_, ?_, ?_, ?_, ?_, ?_⟩, fun i hi => ?_⟩ <;> go_simp
theorem list_done {w W1 wr : World} {blk n : Nat} {K : Nat → Val} (hm : Made W1 blk n n K wr) (hblk : w.heap.size + 1 = blk) (u : Val)
    (k : Int) (t : ByteArray) (z : Int) (r : Nat) (f : Bool) (h9 : -9223372036854775808 ≤ k ∧ k ≤ 9223372036854775807 ∧ t.size ≤ 281474976710656 ∧ -9223372036854775808 ≤ z ∧ z ≤ 9223372036854775807 ∧ r < 18446744073709551616 ∧ n ≤ n ∧ n ≤ 9223372036854775807 ∧ n * 72 ≤ 281474976710656) :
    ∃ K', New w.heap.size (putVal wr w.heap.size 0 u) (.mk k t z r f (some ⟨blk, 0, none⟩) n n K') ∧ ∀ i, i < n → Twin (K i) (K' i) := by
  obtain ⟨m1, m2, m3, m4, K', m5⟩ := hm
  have hc : ∀ b, w.heap.size < b → ∀ o, (putVal wr w.heap.size 0 u).cell? ⟨b, o, none⟩ = wr.cell? ⟨b, o, none⟩ := fun b hb o =>
    putVal_other _ _ _ _ _ _ (.inl (by omega))
  have hz : (putVal wr w.heap.size 0 u).heap.size = wr.heap.size := putVal_size _ _ _ _
  refine ⟨K', ⟨⟨h9, fun _ => ⟨blk, 0, rfl, by omega, by rw [hz]; exact m3⟩, fun i hi => ⟨fun b o e => ?_, ?_⟩⟩, fun hn => ⟨blk, rfl, by omega, fun i hi => ?_, fun i hi => ?_⟩⟩, fun i hi => (m5 i hi).2.2⟩
  · injection e with e
    injection e with e1 e2
    subst e1 e2
    rw [Nat.zero_add]
    exact (m5 i hi).1.keep (hc _ (by omega))
  · exact (m5 i hi).2.1.keep fun b hb => ⟨⟨by omega, by rw [hz]; exact hb.2⟩, hc b (by omega)⟩
  · rw [putVal_frozen]
    exact (m4 i hi).2
  · exact (m5 i hi).2.1.keep fun b hb => ⟨⟨hb.1, by rw [hz]; exact hb.2⟩, hc b (by omega)⟩

set_option maxHeartbeats 2000000 in
theorem list_calls (a : Option Addr) (c n : Nat) (K : Nat → Val) (S : Nat → Prop) (w : World) (hS : ∀ b, S b → b < w.heap.size) (hl : Lies S w (.mk 5 ⟨#[]⟩ 0 0 false a c n K))
    (hn : ∀ i, i < n → (K i).nest ≤ 65536 ∧ (K i).count ≤ 1099511627776) :
    Calls Tryd.prog 15 #[.slice a n c] w (Copied (.mk 5 ⟨#[]⟩ 0 0 false a c n K) w) := by
  obtain ⟨⟨-, -, -, -, -, -, hnc, hcm, hnm⟩, hadr, hkids⟩ := hl
  obtain ⟨i0, hi, hz0, hz1, hz2⟩ := info_parts info25
  have hmk : ∀ w : World, Sem.run Tryd.prog (Instr.makeSlice 23 (.int .i64 (n : Int)) (.int .i64 (n : Int))) w = .ok (.slice (some ⟨w.heap.size, 0, none⟩) n n) (w.alloc (.cells (zeros n) 25)) := fun w => by
    have := run_make w 23 25 i0 _ Tryd.underlying23 hi hz0 .i64 .i64 n n (by omega) (Int.le_refl _) (by rw [hz2]; omega) (by omega)
    rw [hz1, Int.toNat_natCast] at this
    exact this
  have Hadr := Lib.hid hadr
  have Hk := Lib.hid hkids
  have Hn := Lib.hid hn
  have HS := Lib.hid hS
  clear hadr hkids hi hz0 hz1 hz2 hS hn
  go_enter Tryd.func15, Tryd.ntmps15
  go_wp2_with fail
  clear hmk
  have hF := Lib.hid (list_start w K)
  generalize hW1 : (w.alloc _) = W1 at *
  generalize hblk : w.heap.size + 1 = blk at *
  go_loopw [10] (fun i wr => ∃ j : Nat, j ≤ n ∧ i = .int .i64 j ∧ Made W1 blk n j K wr) (fun i _ => n - (intOf i).toNat)
  case atStart => exact ⟨0, by omega, rfl, made_start hF.out.1 _⟩
  case round =>
    obtain ⟨j, hj, rfl, hm⟩ := hrel
    have Hm := Lib.hid hm
    have HW := Lib.hid hW1
    obtain ⟨f1, f2, f4, f6⟩ := hF.out
    have hz : W1.heap.size ≤ wr.heap.size := hm.1.size
    have Hres := Lib.hid (f4.below hm.1 (by omega))
    have Hfr : Hid (∀ i, i < 6 → wr.frozen? ⟨w.heap.size, i, none⟩ = false) := Lib.hid fun i hi => (hm.1.frozen (p := ⟨_, i, none⟩) (by show w.heap.size < W1.heap.size; omega)).trans (f6 i hi)
    have hbw : Below w.heap.size w wr := f2.trans (hm.1.mono (by omega))
    have Hbw := Lib.hid hbw
    have Hblk := Lib.hid hblk
    have Hf := Lib.hid f1
    clear hm hW1 hF f2 f4 f6 hblk f1
    by_cases hlt : j < n
    · obtain ⟨b2, o2, hab, hb2⟩ := Hadr.out (by omega)
      subst hab
      have hjn : j < c := by omega
      obtain ⟨hat, hls⟩ := Hk.out j hlt
      have hat : At wr b2 (o2 + j * 6) (K j) := (hat b2 o2 rfl).below hbw (HS.out _ hb2)
      have hls : Lies S wr (K j) := hls.below hbw HS.out
      have hcl := copy_calls (K j) S wr (fun b hb => Nat.lt_of_lt_of_le (HS.out b hb) hbw.size) hls (Hn.out j hlt).1 (Hn.out j hlt).2
      generalize hK : K j = x at *
      cases x with
      | no => exact hat.elim
      | mk k2 t2 z2 r2 f2 a2 c2 n2 K2 =>
        obtain ⟨h0, h1, h2, h3, h4, h5⟩ := hat
        have HK := Lib.hid hK
        have Hcl : Hid (Calls _ _ #[.agg #[.int .i64 k2, .string t2, .int .i64 z2, .float .f64 r2, .bool f2, .slice a2 n2 c2]] _ _) := Lib.hid hcl
        clear hls hK hcl hbw
        go_wp2_with fail
        refine Hcl.out.mono ?_; rintro en w1 ⟨v', rfl, htw, hb1, hnew⟩
        cases v' with
        | no => exact hnew.elim
        | mk k3 t3 z3 r3 f3 a3 c3 n3 K3 =>
          unfold Val.agg
          have hm := Hm.out
          obtain ⟨⟨y0, c0⟩, e0⟩ := made_cells hm hlt hb1 0 (by omega)
          obtain ⟨⟨y1, c1⟩, e1⟩ := made_cells hm hlt hb1 1 (by omega)
          obtain ⟨⟨y2, c2'⟩, e2⟩ := made_cells hm hlt hb1 2 (by omega)
          obtain ⟨⟨y3, c3'⟩, e3⟩ := made_cells hm hlt hb1 3 (by omega)
          obtain ⟨⟨y4, c4⟩, e4⟩ := made_cells hm hlt hb1 4 (by omega)
          obtain ⟨⟨y5, c5⟩, e5⟩ := made_cells hm hlt hb1 5 (by omega)
          rw [Nat.add_zero] at c0 e0
          have hst := made_step hm hlt (by rw [HK.out]; exact htw) hb1 hnew
          have Hst := Lib.hid hst
          clear hm htw hb1 hnew hst
          go_wp2_with fail
          go_roundw
          case rel => exact ⟨j + 1, by omega, by go_num, Hst.out⟩
          case measure => simp [intOf]; omega
    · obtain rfl : j = n := by omega
      obtain ⟨r0, r1, r2, r3, r4, r5⟩ := Hres.out
      replace r1 : wr.cell? ⟨w.heap.size, 1, none⟩ = _ := r1
      replace r2 : wr.cell? ⟨w.heap.size, 2, none⟩ = _ := r2
      replace r3 : wr.cell? ⟨w.heap.size, 3, none⟩ = _ := r3
      replace r4 : wr.cell? ⟨w.heap.size, 4, none⟩ = _ := r4
      replace r5 : wr.cell? ⟨w.heap.size, 5, none⟩ = _ := r5
      have fr0 := Hfr.out 0 (by omega)
      have fr1 := Hfr.out 1 (by omega)
      have fr2 := Hfr.out 2 (by omega)
      have fr3 := Hfr.out 3 (by omega)
      have fr4 := Hfr.out 4 (by omega)
      have fr5 := Hfr.out 5 (by omega)
      clear hbw
      obtain ⟨K', hnew, htw⟩ := list_done Hm.out Hblk.out (.mk 5 ⟨#[]⟩ 0 0 false (some ⟨blk, 0, none⟩) j j K) 5 ⟨#[]⟩ 0 0 false ⟨by omega, by omega, by decide, by omega, by omega, by omega, Nat.le_refl _, by omega, by omega⟩
      have Hnew := Lib.hid hnew
      have Htw := Lib.hid htw
      clear hnew htw
      go_wp2_with fail
      refine bodyPost_ret (v := .agg #[.int .i64 5, .string ⟨#[]⟩, .int .i64 0, .float .f64 0, .bool false, .slice (some ⟨blk, 0, none⟩) j j]) (by simp [results, Tryd.results15, go_sem, r0, r1, r2, r3, r4, r5]) rfl
        ⟨.mk 5 ⟨#[]⟩ 0 0 false (some ⟨blk, 0, none⟩) j j K', rfl, ⟨_, _, K', rfl, Htw.out⟩, ?_, Hnew.out⟩
      exact putVal_below Hbw.out (Nat.le_refl _) 0 (.mk 5 ⟨#[]⟩ 0 0 false (some ⟨blk, 0, none⟩) j j K)
end Go.Proofs.YtiigfcggdjcmfaaDoor
