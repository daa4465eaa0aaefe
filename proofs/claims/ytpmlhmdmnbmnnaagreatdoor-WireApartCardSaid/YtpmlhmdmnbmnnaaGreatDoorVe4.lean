/- The document's Same of values, at any two values. No condition but bounds. -/
import Derived.Test.YtpmlhmdmnbmnnaaGreatDoorVe3
namespace Go.Proofs.YtpmlhmdmnbmnnaaGreatDoor
open Go.ChangeShapes Go.WideShapes Go.ChangeAt Go.RowKit

set_option maxHeartbeats 8000000 in
set_option maxRecDepth 100000 in
theorem rsame_calls : ∀ (x y : Val) (S : Nat → Prop) (w : World), (∀ b, S b → b < w.heap.size) → Lies S w x → Lies S w y →
    Calls Tryz.prog 27 #[x.agg, y.agg] w fun e w' => e = .returned (.bool (same x y)) ∧ Below w.heap.size w w' := by
  intro x
  induction x with
  | no => exact fun _ _ _ _ hl => hl.elim
  | mk k t z r f a c n K ih =>
    intro y
    cases y with
    | no => exact fun _ _ _ _ hl => hl.elim
    | mk k' t' z' r' f' a' c' n' K' =>
      intro S w hS hl hl'
      have hl0 := hl
      have hl0' := hl'
      obtain ⟨⟨-, -, -, -, -, h1, hnc, hcm, hnm⟩, hadr, hkids⟩ := hl
      obtain ⟨⟨-, -, -, -, -, h2, hnc', hcm', hnm'⟩, hadr', hkids'⟩ := hl'
      by_cases e1 : k = k'
      case neg => rw [same_root (by simp [e1])]; apply rSame_k <;> assumption
      subst e1
      by_cases e2 : t = t'
      case neg => rw [same_root (by simp [e2])]; apply rSame_t <;> assumption
      subst e2
      by_cases e3 : z = z'
      case neg => rw [same_root (by simp [e3])]; apply rSame_z <;> assumption
      subst e3
      by_cases e4 : bitsN r = bitsN r'
      case neg => rw [same_root (by simp [e4])]; apply rSame_r <;> assumption
      by_cases e5 : f = f'
      case neg => rw [same_root (by simp [e5])]; apply rSame_f <;> assumption
      subst e5
      by_cases e6 : n = n'
      case neg => rw [same_root (by simp [e6])]; apply rSame_n <;> assumption
      subst e6
      rw [same_kids e4]
      obtain ⟨hb, hz, hx, hy⟩ := two_facts w k k t t z z r r' f f a a' c c' n n K K'
      have B0 := Lib.hid hb
      have X := Lib.hid hx
      have Y := Lib.hid hy
      have Z1 : Hid (w.heap.size < ((w.alloc _).alloc _).heap.size) := Lib.hid (Nat.lt_of_lt_of_eq (by omega) hz.symm)
      have Z2 : Hid (w.heap.size + 1 < ((w.alloc _).alloc _).heap.size) := Lib.hid (Nat.lt_of_lt_of_eq (by omega) hz.symm)
      have HE := Lib.hid e4
      have Hadr := Lib.hid hadr
      have Hk := Lib.hid hkids
      have Hadr' := Lib.hid hadr'
      have Hk' := Lib.hid hkids'
      have Hih := Lib.hid ih
      have HS := Lib.hid hS
      clear hb hx hy hz hadr hkids hadr' hkids' ih hS e4 hl0 hl0'
      unfold Val.agg
      go_enter Tryz.func27, Tryz.ntmps27
      go_wp2_with fail
      generalize hW : ((w.alloc _).alloc _) = W at *
      obtain ⟨F, F1, F2, F3, -⟩ := over W
      have f0 : ∀ x, (F x).cell? ⟨w.heap.size, 0, none⟩ = some (.int .i64 k) := fun x => (X.out.below (F1 x) Z1.out).lits.1
      have f1 : ∀ x, (F x).cell? ⟨w.heap.size, 1, none⟩ = some (.string t) := fun x => (X.out.below (F1 x) Z1.out).lits.2.1
      have f2 : ∀ x, (F x).cell? ⟨w.heap.size, 2, none⟩ = some (.int .i64 z) := fun x => (X.out.below (F1 x) Z1.out).lits.2.2.1
      have f3 : ∀ x, (F x).cell? ⟨w.heap.size, 3, none⟩ = some (.float .f64 r) := fun x => (X.out.below (F1 x) Z1.out).lits.2.2.2.1
      have f4 : ∀ x, (F x).cell? ⟨w.heap.size, 4, none⟩ = some (.bool f) := fun x => (X.out.below (F1 x) Z1.out).lits.2.2.2.2.1
      have f5 : ∀ x, (F x).cell? ⟨w.heap.size, 5, none⟩ = some (.slice a n c) := fun x => (X.out.below (F1 x) Z1.out).lits.2.2.2.2.2
      have g0 : ∀ x, (F x).cell? ⟨w.heap.size + 1, 0, none⟩ = some (.int .i64 k) := fun x => (Y.out.below (F1 x) Z2.out).lits.1
      have g1 : ∀ x, (F x).cell? ⟨w.heap.size + 1, 1, none⟩ = some (.string t) := fun x => (Y.out.below (F1 x) Z2.out).lits.2.1
      have g2 : ∀ x, (F x).cell? ⟨w.heap.size + 1, 2, none⟩ = some (.int .i64 z) := fun x => (Y.out.below (F1 x) Z2.out).lits.2.2.1
      have g3 : ∀ x, (F x).cell? ⟨w.heap.size + 1, 3, none⟩ = some (.float .f64 r') := fun x => (Y.out.below (F1 x) Z2.out).lits.2.2.2.1
      have g4 : ∀ x, (F x).cell? ⟨w.heap.size + 1, 4, none⟩ = some (.bool f) := fun x => (Y.out.below (F1 x) Z2.out).lits.2.2.2.2.1
      have g5 : ∀ x, (F x).cell? ⟨w.heap.size + 1, 5, none⟩ = some (.slice a' n c') := fun x => (Y.out.below (F1 x) Z2.out).lits.2.2.2.2.2
      have HB : Hid (∀ x, Calls _ _ _ (F x) _) := Lib.hid fun x => refBits_calls r h1 (F x)
      have HB' : Hid (∀ x, Calls _ _ _ (F x) _) := Lib.hid fun x => refBits_calls r' h2 (F x)
      rw [← HE.out] at HB'
      have HF1 := Lib.hid F1
      clear F1 F3 h1 h2
      refine wp_region_class F (by kernel_rfl) (by kernel_rfl) F2 ?_
      try dsimp only [List.append]
      repeat (go_big_quiet_step (first | (go_at_call 53; exact quiet_same (HB.out _)) | (go_at_call 53; exact quiet_same (HB'.out _))))
      refine wpQuiet_nil ?_
      intro _ hw'
      obtain ⟨x1, hw2⟩ := hw'
      subst hw2
      clear f0 f1 f2 f3 f4 f5 g0 g1 g2 g3 g4 g5 F2
      have hb1 := bstep B0.out (HF1.out x1)
      have hx1 := X.out.below (HF1.out x1) Z1.out
      have hy1 := Y.out.below (HF1.out x1) Z2.out
      have hz1 : w.heap.size + 1 < (F x1).heap.size := Nat.lt_of_lt_of_le Z2.out (HF1.out x1).size
      have x5 := hx1.lits.2.2.2.2.2
      have y5 := hy1.lits.2.2.2.2.2
      generalize F x1 = W1 at *
      have Hb1 := Lib.hid hb1
      have Hx1 := Lib.hid hx1
      have Hy1 := Lib.hid hy1
      clear hb1 hx1 hy1
      go_wp2_with fail
      go_loopw [53] (fun i wr => ∃ j : Nat, j ≤ n ∧ i = .int .i64 j ∧ Below W1.heap.size W1 wr ∧ allTo (fun i => same (K i) (K' i)) j = true) (fun i _ => n - (intOf i).toNat)
      case atStart => exact ⟨0, by omega, rfl, Below.refl _ _, rfl⟩
      case round =>
        obtain ⟨j, hj, rfl, hb, hall⟩ := hrel
        have Hall := Lib.hid hall
        clear hall
        by_cases hlt : j < n
        · obtain ⟨b2, o2, rfl, hbs, hat, hls, hS2⟩ := kid_facts HS.out Hb1.out hb Hadr.out Hk.out hlt
          obtain ⟨b3, o3, rfl, hbs', hat', hls', -⟩ := kid_facts HS.out Hb1.out hb Hadr'.out Hk'.out hlt
          have hjn : j < c := by omega
          have hjn' : j < c' := by omega
          have z5 := (Hx1.out.below hb (show w.heap.size < W1.heap.size by omega)).lits.2.2.2.2.2
          have w5 := (Hy1.out.below hb hz1).lits.2.2.2.2.2
          have Hst := Lib.hid (allTo_succ (fun i => same (K i) (K' i)) j)
          have Hno := fun h => Lib.hid (allTo_false (g := fun i => same (K i) (K' i)) hlt h)
          have Hb := Lib.hid hb
          have hcall := fun W2 (h2 : Below wr.heap.size wr W2) => Hih.out j (K' j) S W2 (fun b hb => Nat.lt_of_lt_of_le (hS2 b hb) h2.size) (hls.below h2 hS2) (hls'.below h2 hS2)
          cases hs : same (K j) (K' j) with
          | false =>
            have Hno2 := Hno hs
            clear Hno
            rw [hs] at hcall
            generalize hK : K j = x at *
            generalize hK' : K' j = y at *
            cases x with
            | no => exact hat.elim
            | mk k2 t2 z2 r2 q2 a2 c2 n2 K2 =>
              cases y with
              | no => exact hat'.elim
              | mk k3 t3 z3 r3 q3 a3 c3 n3 K3 =>
                obtain ⟨F, F1, F2, F3, -⟩ := over wr
                have Hcall : Hid (∀ x : Over wr, Calls _ _ #[.agg #[.int .i64 k2, .string t2, .int .i64 z2, .float .f64 r2, .bool q2, .slice a2 n2 c2], .agg #[.int .i64 k3, .string t3, .int .i64 z3, .float .f64 r3, .bool q3, .slice a3 n3 c3]] (F x) _) := Lib.hid fun x => hcall (F x) (F1 x)
                have fa0 : ∀ x, (F x).cell? ⟨b2, o2 + j * 6, none⟩ = some (.int .i64 k2) := fun x => (hat.below (F1 x) hbs).1
                have fa1 : ∀ x, (F x).cell? ⟨b2, o2 + j * 6 + 1, none⟩ = some (.string t2) := fun x => (hat.below (F1 x) hbs).2.1
                have fa2 : ∀ x, (F x).cell? ⟨b2, o2 + j * 6 + 2, none⟩ = some (.int .i64 z2) := fun x => (hat.below (F1 x) hbs).2.2.1
                have fa3 : ∀ x, (F x).cell? ⟨b2, o2 + j * 6 + 3, none⟩ = some (.float .f64 r2) := fun x => (hat.below (F1 x) hbs).2.2.2.1
                have fa4 : ∀ x, (F x).cell? ⟨b2, o2 + j * 6 + 4, none⟩ = some (.bool q2) := fun x => (hat.below (F1 x) hbs).2.2.2.2.1
                have fa5 : ∀ x, (F x).cell? ⟨b2, o2 + j * 6 + 5, none⟩ = some (.slice a2 n2 c2) := fun x => (hat.below (F1 x) hbs).2.2.2.2.2
                have ga0 : ∀ x, (F x).cell? ⟨b3, o3 + j * 6, none⟩ = some (.int .i64 k3) := fun x => (hat'.below (F1 x) hbs').1
                have ga1 : ∀ x, (F x).cell? ⟨b3, o3 + j * 6 + 1, none⟩ = some (.string t3) := fun x => (hat'.below (F1 x) hbs').2.1
                have ga2 : ∀ x, (F x).cell? ⟨b3, o3 + j * 6 + 2, none⟩ = some (.int .i64 z3) := fun x => (hat'.below (F1 x) hbs').2.2.1
                have ga3 : ∀ x, (F x).cell? ⟨b3, o3 + j * 6 + 3, none⟩ = some (.float .f64 r3) := fun x => (hat'.below (F1 x) hbs').2.2.2.1
                have ga4 : ∀ x, (F x).cell? ⟨b3, o3 + j * 6 + 4, none⟩ = some (.bool q3) := fun x => (hat'.below (F1 x) hbs').2.2.2.2.1
                have ga5 : ∀ x, (F x).cell? ⟨b3, o3 + j * 6 + 5, none⟩ = some (.slice a3 n3 c3) := fun x => (hat'.below (F1 x) hbs').2.2.2.2.2
                have fa6 : ∀ x, (F x).cell? ⟨w.heap.size, 5, none⟩ = some (.slice (some ⟨b2, o2, none⟩) n c) := fun x => ((F1 x).cell (p := ⟨w.heap.size, 5, none⟩) (show w.heap.size < wr.heap.size by have := hb.size; omega)).trans z5
                have ga6 : ∀ x, (F x).cell? ⟨w.heap.size + 1, 5, none⟩ = some (.slice (some ⟨b3, o3, none⟩) n c') := fun x => ((F1 x).cell (p := ⟨w.heap.size + 1, 5, none⟩) (show w.heap.size + 1 < wr.heap.size by have := hb.size; omega)).trans w5
                have HF1 := Lib.hid F1
                have HF3 := Lib.hid F3
                clear F1 F3 hcall hs hK hK' hat hat' hls hls' hS2 hb Hst
                go_wp2_with fail
                refine wp_region_class F (by kernel_rfl) (by kernel_rfl) F2 ?_
                try dsimp only [List.append]
                repeat (go_big_quiet_step ((go_at_call 27; exact quiet_over HF3.out (Hcall.out _))))
                refine wpQuiet_nil ?_
                intro _ hw'
                obtain ⟨x1, hw2⟩ := hw'
                subst hw2
                go_wp2_with fail
                go_ret
                exact ⟨ret_b Hno2.out.symm, bstep Hb1.out (bstep Hb.out (HF1.out x1))⟩
          | true =>
            have Hok : Hid (allTo (fun i => same (K i) (K' i)) (j + 1) = true) := Lib.hid (by rw [Hst.out, Hall.out, hs]; rfl)
            clear Hno
            rw [hs] at hcall
            generalize hK : K j = x at *
            generalize hK' : K' j = y at *
            cases x with
            | no => exact hat.elim
            | mk k2 t2 z2 r2 q2 a2 c2 n2 K2 =>
              cases y with
              | no => exact hat'.elim
              | mk k3 t3 z3 r3 q3 a3 c3 n3 K3 =>
                obtain ⟨F, F1, F2, F3, -⟩ := over wr
                have Hcall : Hid (∀ x : Over wr, Calls _ _ #[.agg #[.int .i64 k2, .string t2, .int .i64 z2, .float .f64 r2, .bool q2, .slice a2 n2 c2], .agg #[.int .i64 k3, .string t3, .int .i64 z3, .float .f64 r3, .bool q3, .slice a3 n3 c3]] (F x) _) := Lib.hid fun x => hcall (F x) (F1 x)
                have fa0 : ∀ x, (F x).cell? ⟨b2, o2 + j * 6, none⟩ = some (.int .i64 k2) := fun x => (hat.below (F1 x) hbs).1
                have fa1 : ∀ x, (F x).cell? ⟨b2, o2 + j * 6 + 1, none⟩ = some (.string t2) := fun x => (hat.below (F1 x) hbs).2.1
                have fa2 : ∀ x, (F x).cell? ⟨b2, o2 + j * 6 + 2, none⟩ = some (.int .i64 z2) := fun x => (hat.below (F1 x) hbs).2.2.1
                have fa3 : ∀ x, (F x).cell? ⟨b2, o2 + j * 6 + 3, none⟩ = some (.float .f64 r2) := fun x => (hat.below (F1 x) hbs).2.2.2.1
                have fa4 : ∀ x, (F x).cell? ⟨b2, o2 + j * 6 + 4, none⟩ = some (.bool q2) := fun x => (hat.below (F1 x) hbs).2.2.2.2.1
                have fa5 : ∀ x, (F x).cell? ⟨b2, o2 + j * 6 + 5, none⟩ = some (.slice a2 n2 c2) := fun x => (hat.below (F1 x) hbs).2.2.2.2.2
                have ga0 : ∀ x, (F x).cell? ⟨b3, o3 + j * 6, none⟩ = some (.int .i64 k3) := fun x => (hat'.below (F1 x) hbs').1
                have ga1 : ∀ x, (F x).cell? ⟨b3, o3 + j * 6 + 1, none⟩ = some (.string t3) := fun x => (hat'.below (F1 x) hbs').2.1
                have ga2 : ∀ x, (F x).cell? ⟨b3, o3 + j * 6 + 2, none⟩ = some (.int .i64 z3) := fun x => (hat'.below (F1 x) hbs').2.2.1
                have ga3 : ∀ x, (F x).cell? ⟨b3, o3 + j * 6 + 3, none⟩ = some (.float .f64 r3) := fun x => (hat'.below (F1 x) hbs').2.2.2.1
                have ga4 : ∀ x, (F x).cell? ⟨b3, o3 + j * 6 + 4, none⟩ = some (.bool q3) := fun x => (hat'.below (F1 x) hbs').2.2.2.2.1
                have ga5 : ∀ x, (F x).cell? ⟨b3, o3 + j * 6 + 5, none⟩ = some (.slice a3 n3 c3) := fun x => (hat'.below (F1 x) hbs').2.2.2.2.2
                have fa6 : ∀ x, (F x).cell? ⟨w.heap.size, 5, none⟩ = some (.slice (some ⟨b2, o2, none⟩) n c) := fun x => ((F1 x).cell (p := ⟨w.heap.size, 5, none⟩) (show w.heap.size < wr.heap.size by have := hb.size; omega)).trans z5
                have ga6 : ∀ x, (F x).cell? ⟨w.heap.size + 1, 5, none⟩ = some (.slice (some ⟨b3, o3, none⟩) n c') := fun x => ((F1 x).cell (p := ⟨w.heap.size + 1, 5, none⟩) (show w.heap.size + 1 < wr.heap.size by have := hb.size; omega)).trans w5
                have HF1 := Lib.hid F1
                have HF3 := Lib.hid F3
                clear F1 F3 hcall hs hK hK' hat hat' hls hls' hS2 hb Hst
                go_wp2_with fail
                refine wp_region_class F (by kernel_rfl) (by kernel_rfl) F2 ?_
                try dsimp only [List.append]
                repeat (go_big_quiet_step ((go_at_call 27; exact quiet_over HF3.out (Hcall.out _))))
                refine wpQuiet_nil ?_
                intro _ hw'
                obtain ⟨x1, hw2⟩ := hw'
                subst hw2
                go_wp2_with fail
                go_roundw
                case rel => exact ⟨j + 1, by omega, by go_num, bstep Hb.out (HF1.out x1), Hok.out⟩
                case measure => simp [intOf]; omega
        · obtain rfl : j = n := by omega
          have Hb := Lib.hid hb
          have z5 := (Hx1.out.below hb (show w.heap.size < W1.heap.size by omega)).lits.2.2.2.2.2
          clear hb
          go_wp2_with fail
          go_ret
          exact ⟨ret_b Hall.out.symm, bstep Hb1.out Hb.out⟩
end Go.Proofs.YtpmlhmdmnbmnnaaGreatDoor
