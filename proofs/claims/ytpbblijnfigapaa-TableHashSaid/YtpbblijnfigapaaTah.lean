/- TableHash. No condition. -/
import Derived.Test.YtpbblijnfigapaaTag
namespace Go.Proofs.Ytpbblijnfigapaa.Ta
open Go.ChangeShapes Go.WideShapes Go.ChangeAt Go.RowKit
theorem hk_app (s : ByteArray) (c : Nat) (hc : c < 256) : hk (s ++ ⟨#[UInt8.ofNat c]⟩) = hstep (hk s) c := by
  have e : (s ++ ⟨#[UInt8.ofNat c]⟩ : ByteArray).data.toList = s.data.toList ++ [UInt8.ofNat c] := by simp
  unfold hk
  rw [e, hsh_app]
  congr 1
  simp [UInt8.toNat_ofNat']
  omega
theorem mul_back {x y : Nat} (hx : x < 18446744073709551616) (hy : y < 18446744073709551616) (h : x * 1099511628211 % 18446744073709551616 = y * 1099511628211 % 18446744073709551616) : x = y := by
  have e : 1099511628211 * 14886173955864302971 = 1 + 18446744073709551616 * 887285111055 := by decide
  have h2 : ∀ z, z < 18446744073709551616 → (z * 1099511628211 % 18446744073709551616) * 14886173955864302971 % 18446744073709551616 = z := fun z hz => by
    rw [Nat.mod_mul_mod, Nat.mul_assoc, e, Nat.mul_add, Nat.mul_one, Nat.mul_left_comm, Nat.add_mul_mod_self_left, Nat.mod_eq_of_lt hz]
  rw [← h2 x hx, ← h2 y hy, h]
theorem hstep_inj {h c d : Nat} (hh : h < 18446744073709551616) (hc : c < 256) (hd : d < 256) (e : hstep h c = hstep h d) : c = d := by
  have hx : ∀ z, z < 256 → h ^^^ z < 2 ^ 64 := fun z hz => Nat.xor_lt_two_pow (by omega) (by omega)
  have h1 := hx c hc
  have h2 := hx d hd
  have h3 : h ^^^ c = h ^^^ d := mul_back (by omega) (by omega) e
  have h4 : h ^^^ (h ^^^ c) = h ^^^ (h ^^^ d) := by rw [h3]
  rw [← Nat.xor_assoc, ← Nat.xor_assoc, Nat.xor_self, Nat.zero_xor, Nat.zero_xor] at h4
  exact h4
theorem conv1 (W : World) (g x : Nat) (hx : x < 256) (h : W.cell? ⟨g, 0, none⟩ = some (.int .u8 (x : Nat))) : (convert 41 9 (.slice (some ⟨g, 0, none⟩) 1 1)).run Try.prog W = .ok (.string ⟨#[UInt8.ofNat x]⟩) W := by
  refine run_convert_bytes_back W _ _ 5 ⟨g, 0, none⟩ 1 [UInt8.ofNat x] Try.underlying41 Try.underlying5 Try.underlying9 fun j hj => ?_
  have hj : j = 0 := by have : ([UInt8.ofNat x] : List UInt8).length = 1 := rfl; omega
  subst hj
  have e : ((UInt8.ofNat x).toNat : Int) = (x : Int) := by rw [UInt8.toNat_ofNat']; omega
  show W.cell? ⟨g, 0, none⟩ = some (.int .u8 ((UInt8.ofNat x).toNat : Int))
  rw [e]; exact h
set_option maxHeartbeats 4000000 in
set_option maxRecDepth 100000 in
theorem tableHash (s : ByteArray) (hs : s.size ≤ 140737488351232) (c d : Nat) (hc : c < 256) (hd : d < 256) (w : World) :
    Calls Try.prog 5 #[.string s, .int .u8 (c : Nat), .int .u8 (d : Nat)] w fun e w' => e = .returned (.bool true) ∧ Below w.heap.size w w' := by
  have HA := Lib.hid (tableAlive w)
  go_enter Try.func5, Try.ntmps5
  go_wp2_with fail
  refine HA.out.mono ?_; rintro en w1 ⟨rfl, hb1⟩
  have HB1 := Lib.hid hb1
  clear hb1
  by_cases hl : s.size ≤ 1000
  case neg =>
    have hli : (1000 : Int) < (s.size : Int) := by omega
    go_wp2_with fail
    go_ret
    exact ⟨rfl, HB1.out⟩
  case pos =>
    have hli : ¬ (1000 : Int) < (s.size : Int) := by omega
    have HH0 := Lib.hid (hash_calls w1 s hs)
    go_wp2_with fail
    refine HH0.out.mono ?_; rintro en w2 ⟨rfl, rfl⟩
    go_upto_region 6 with fail
    go_cut [8, 9] (fun v8 v9 wc => v8 = .int .u64 (hstep (hk s) c : Nat) ∧ v9 = .int .u64 (hstep (hk s) d : Nat) ∧ Hid (Below w1.heap.size w1 wc))
    case first =>
      have HH := Lib.hid (fun W x (hx : x < 256) => by
        have h := hash_calls W (s ++ ⟨#[UInt8.ofNat x]⟩) (by simp [ByteArray.size_append] at *; have : (⟨#[UInt8.ofNat x]⟩ : ByteArray).size = 1 := rfl; omega)
        rw [hk_app s x hx] at h
        exact h)
      have C1 := conv1 (w1.alloc (.cells #[.int .u8 (c : Nat)] 5)).drew w1.heap.size c hc (by rw [World.cell?_drew, World.cell?_alloc_new]; rfl)
      have C2 := conv1 (w1.alloc (.cells #[.int .u8 (d : Nat)] 5)).drew w1.heap.size d hd (by rw [World.cell?_drew, World.cell?_alloc_new]; rfl)
      have C3 := conv1 ((w1.alloc (.cells #[.int .u8 (c : Nat)] 5)).alloc (.cells #[.int .u8 (d : Nat)] 5)).drew w1.heap.size c hc (by go_simp)
      have C4 := conv1 ((w1.alloc (.cells #[.int .u8 (c : Nat)] 5)).alloc (.cells #[.int .u8 (d : Nat)] 5)).drew (w1.heap.size + 1) d hd (by go_simp)
      have C5 := conv1 ((w1.alloc (.cells #[.int .u8 (d : Nat)] 5)).alloc (.cells #[.int .u8 (c : Nat)] 5)).drew w1.heap.size d hd (by go_simp)
      have C6 := conv1 ((w1.alloc (.cells #[.int .u8 (d : Nat)] 5)).alloc (.cells #[.int .u8 (c : Nat)] 5)).drew (w1.heap.size + 1) c hc (by go_simp)
      have z1 : (⟨#[UInt8.ofNat c]⟩ : ByteArray).size = 1 := rfl
      have z2 : (⟨#[UInt8.ofNat d]⟩ : ByteArray).size = 1 := rfl
      go_region_with (go_at_call 17; first | ((with_reducible refine (HH.out _ c hc).mono ?_); rintro en w9 ⟨rfl, rfl⟩) | ((with_reducible refine (HH.out _ d hd).mono ?_); rintro en w9 ⟨rfl, rfl⟩))
      all_goals (go_wp2_with fail; go_meet)
      all_goals exact ⟨rfl, rfl, Lib.hid (bstep (bbox _) (bbox _)).drew⟩
    case rest =>
      obtain ⟨rfl, rfl, HB2⟩ := hcut
      have hh := hsh_lt s.data.toList
      have E2 : IntKind.u64.wrap (bits .xor .u64 (hk s : Nat) (c : Nat) * 1099511628211) = (hstep (hk s) c : Nat) := bits_hash _ _ hh hc
      have E1 := hash_wrap c hc
      have HV : ((c : Int) == (d : Int)) = (((hstep (hk s) c : Nat) : Int) == ((hstep (hk s) d : Nat) : Int)) := by
        by_cases e : c = d
        · subst e; simp
        · have e2 : hstep (hk s) c ≠ hstep (hk s) d := fun h => e (hstep_inj hh hc hd h)
          rw [beq_eq_false_iff_ne.2 (by omega), beq_eq_false_iff_ne.2 (by omega)]
      generalize hstep (hk s) c = x at *
      generalize hstep (hk s) d = y at *
      generalize hk s = z at *
      cases hb : ((c : Int) == (d : Int))
      · have hb2 : ((x : Int) == (y : Int)) = false := by rw [← HV, hb]
        have hx : ((x : Int) == (x : Int)) = true := beq_self_eq_true _
        have HB3 := Lib.hid (bstep HB1.out HB2.out)
        clear HV
        go_wp2_with fail
        go_ret
        exact ⟨rfl, HB3.out⟩
      · have hb2 : ((x : Int) == (y : Int)) = true := by rw [← HV, hb]
        have hx : ((x : Int) == (x : Int)) = true := beq_self_eq_true _
        have HB3 := Lib.hid (bstep HB1.out HB2.out)
        clear HV
        go_wp2_with fail
        go_ret
        exact ⟨rfl, HB3.out⟩
end Go.Proofs.Ytpbblijnfigapaa.Ta
