/- Package value's isSame and Same, at any two values. Condition: no deeper than the room. -/
import Derived.Test.YtiigfcggdjcmfaaDoorVb2
namespace Go.Proofs.YtiigfcggdjcmfaaDoor
open Go.ChangeShapes Go.WideShapes Go.ChangeAt Go.RowKit

theorem Lies.drew {S : Nat → Prop} {w : World} {v : Val} (h : Lies S w v) (m : Nat) : Lies S (w.drewN m) v := Lies.keep (T := S) (w := w) (w' := w.drewN m) (fun _ hb => ⟨hb, fun _ => rfl⟩) h
theorem At.drew {w : World} {b o : Nat} {v : Val} (h : At w b o v) (m : Nat) : At (w.drewN m) b o v := At.keep (w := w) (w' := w.drewN m) (fun _ => rfl) h
theorem allTo_down {g : Nat → Bool} {n i : Nat} (h : i < n) (hf : g i = false) : allTo g n = false := by
  induction n with
  | zero => omega
  | succ n ih =>
    rw [allTo_succ]
    by_cases e : i = n
    · subst e; rw [hf]; simp
    · rw [ih (by omega)]; rfl
theorem same_root {k k' : Int} {t t' : ByteArray} {z z' : Int} {r r' : Nat} {f f' : Bool} {a a' : Option Addr} {c c' n n' : Nat} {K K' : Nat → Val} (h : ¬ (k = k' ∧ t = t' ∧ z = z' ∧ bitsN r = bitsN r' ∧ f = f' ∧ n = n')) :
    same (.mk k t z r f a c n K) (.mk k' t' z' r' f' a' c' n' K') = false := by
  show (decide _ && _) = false
  rw [decide_eq_false h]; rfl
theorem same_kids {k : Int} {t : ByteArray} {z : Int} {r r' : Nat} {f : Bool} {a a' : Option Addr} {c c' n : Nat} {K K' : Nat → Val} (h : bitsN r = bitsN r') :
    same (.mk k t z r f a c n K) (.mk k t z r' f a' c' n K') = allTo (fun i => same (K i) (K' i)) n := by
  show (decide _ && _) = _
  rw [decide_eq_true ⟨rfl, rfl, rfl, h, rfl, rfl⟩]; rfl
theorem ret_b {a b : Bool} (h : a = b) : Ending.returned (.bool a) = .returned (.bool b) := by rw [h]

set_option maxHeartbeats 4000000 in
set_option maxRecDepth 100000 in
theorem isSame_calls : ∀ (x y : Val) (S S' : Nat → Prop) (w : World) (b o b' o' room : Nat), Lies S w x → Lies S' w y → At w b o x → At w b' o' y → x.nest ≤ room → room ≤ 65536 →
    Calls Tryd.prog 31 #[.pointer (some ⟨b, o, none⟩), .pointer (some ⟨b', o', none⟩), .int .i64 room] w fun e w' => e = .returned (.bool (same x y)) ∧ ∃ m, w' = w.drewN m := by
  intro x
  induction x with
  | no => exact fun _ _ _ _ _ _ _ _ _ hl => hl.elim
  | mk k t z r f a c n K ih =>
    intro y
    cases y with
    | no => exact fun _ _ _ _ _ _ _ _ _ hl => hl.elim
    | mk k' t' z' r' f' a' c' n' K' =>
      intro S S' w b o b' o' room hl hl' ha ha' hn hr2
      have hr : 0 < room := by unfold Val.nest at hn; omega
      obtain ⟨⟨-, -, -, -, -, h1, hnc, hcm, hnm⟩, hadr, hkids⟩ := hl
      obtain ⟨⟨-, -, -, -, -, h2, hnc', hcm', hnm'⟩, hadr', hkids'⟩ := hl'
      by_cases e1 : k = k'
      case neg => rw [same_root (by simp [e1])]; exact isSame_k (ha := ha) (ha' := ha') (hr := hr) (hr2 := hr2) (hd := e1) (_h1 := h1) (_h2 := h2)
      subst e1
      by_cases e2 : t = t'
      case neg => rw [same_root (by simp [e2])]; exact isSame_t (ha := ha) (ha' := ha') (hr := hr) (hr2 := hr2) (hd := e2) (_h1 := h1) (_h2 := h2)
      subst e2
      by_cases e3 : z = z'
      case neg => rw [same_root (by simp [e3])]; exact isSame_z (ha := ha) (ha' := ha') (hr := hr) (hr2 := hr2) (hd := e3) (_h1 := h1) (_h2 := h2)
      subst e3
      by_cases e4 : bitsN r = bitsN r'
      case neg => rw [same_root (by simp [e4])]; exact isSame_r (ha := ha) (ha' := ha') (hr := hr) (hr2 := hr2) (hd := e4) (h1 := h1) (h2 := h2)
      by_cases e5 : f = f'
      case neg => rw [same_root (by simp [e5])]; exact isSame_f (ha := ha) (ha' := ha') (hr := hr) (hr2 := hr2) (hd := e5) (hbits := e4) (h1 := h1) (h2 := h2)
      subst e5
      by_cases e6 : n = n'
      case neg => rw [same_root (by simp [e6])]; exact isSame_n (ha := ha) (ha' := ha') (hr := hr) (hr2 := hr2) (hd := e6) (hbits := e4) (h1 := h1) (h2 := h2)
      subst e6
      rw [same_kids e4]
      have hroom : ((room : Int) == 0) = false := by rw [beq_eq_false_iff_ne]; omega
      obtain ⟨x0, x1, x2, x3, x4, x5⟩ := ha
      obtain ⟨y0, y1, y2, y3, y4, y5⟩ := ha'
      have HS := Lib.hid (same_quiet r r' h1 h2 true (decide_eq_true e4))
      have hN : ∀ i, i < n → (K i).nest ≤ room - 1 := fun i hi => by
        unfold Val.nest at hn
        have := maxTo_le (g := fun i => (K i).nest) hi
        omega
      have HN := Lib.hid hN
      have Hadr := Lib.hid hadr
      have Hk := Lib.hid hkids
      have Hadr' := Lib.hid hadr'
      have Hk' := Lib.hid hkids'
      have Hih := Lib.hid ih
      clear hadr hkids hadr' hkids' ih hn hN e4 h1 h2
      go_enter Tryd.func31, Tryd.ntmps31
      go_wp2_with fail
      refine wp_region_quiet_lit (by kernel_rfl) (by kernel_rfl) ?_
      dsimp only [List.append]
      repeat (go_big_quiet_step ((go_at_call 42; exact Calls.quiet_of_same (HS.out _))))
      refine wpQuiet_nil ?_
      intro _ hw'
      obtain ⟨nq, hw2⟩ := hw'
      subst hw2
      clear x0 x1 x2 x3 x4 y0 y1 y2 y3 y4
      go_wp2_with fail
      go_loopw [84] (fun i wr => ∃ j m : Nat, j ≤ n ∧ i = .int .i64 j ∧ wr = w.drewN m ∧ allTo (fun i => same (K i) (K' i)) j = true) (fun i _ => n - (intOf i).toNat)
      case atStart => exact ⟨0, _, by omega, rfl, rfl, rfl⟩
      case round =>
        obtain ⟨j, m, hj, rfl, hwr, hall⟩ := hrel
        have Hall := Lib.hid hall
        have Hw := Lib.hid hwr
        replace x5 : wr.cell? ⟨b, o + 5, none⟩ = some (.slice a n c) := by rw [hwr]; exact x5
        replace y5 : wr.cell? ⟨b', o' + 5, none⟩ = some (.slice a' n c') := by rw [hwr]; exact y5
        clear hall hwr
        by_cases hlt : j < n
        · obtain ⟨b2, o2, hab, hb2⟩ := Hadr.out (by omega)
          obtain ⟨b3, o3, hab', hb3⟩ := Hadr'.out (by omega)
          subst hab hab'
          have hjn : j < c := by omega
          have hjn' : j < c' := by omega
          obtain ⟨hat, hls⟩ := Hk.out j hlt
          obtain ⟨hat', hls'⟩ := Hk'.out j hlt
          have hcall := fun q => Hih.out j (K' j) S S' (wr.drewN q) b2 (o2 + j * 6) b3 (o3 + j * 6) (room - 1) (by rw [Hw.out]; exact (hls.drew m).drew q) (by rw [Hw.out]; exact (hls'.drew m).drew q) (by rw [Hw.out]; exact ((hat _ _ rfl).drew m).drew q) (by rw [Hw.out]; exact ((hat' _ _ rfl).drew m).drew q) (HN.out j hlt) (by omega)
          rw [show ((room - 1 : Nat) : Int) = (room : Int) - 1 by omega] at hcall
          cases hs : same (K j) (K' j) with
          | false =>
            rw [hs] at hcall
            have Hcall := Lib.hid hcall
            have Hfin := Lib.hid (allTo_down (g := fun i => same (K i) (K' i)) hlt hs)
            clear hcall hs hat hat' hls hls'
            go_wp2_with fail
            have hwr : IntKind.i64.wrap ((room : Int) - 1) = (room : Int) - 1 := IntWalk.i64_in _ (by omega)
            go_quiet ((go_at_call 31; exact Calls.quiet_of (Hcall.out _)))
            clear hwr
            go_wp2_with fail
            go_ret
            exact ⟨ret_b Hfin.out.symm, _, by rw [Hw.out, World.drewN_drewN]⟩
          | true =>
            rw [hs] at hcall
            have Hcall := Lib.hid hcall
            have Hst : Hid (allTo (fun i => same (K i) (K' i)) (j + 1) = true) := Lib.hid (by rw [allTo_succ, Hall.out, hs]; rfl)
            clear hcall hs hat hat' hls hls'
            go_wp2_with fail
            have hwr : IntKind.i64.wrap ((room : Int) - 1) = (room : Int) - 1 := IntWalk.i64_in _ (by omega)
            go_quiet ((go_at_call 31; exact Calls.quiet_of (Hcall.out _)))
            clear hwr
            go_wp2_with fail
            go_roundw
            case rel => exact ⟨j + 1, _, by omega, by go_num, by rw [Hw.out, World.drewN_drewN], Hst.out⟩
            case measure => simp [intOf]; omega
        · obtain rfl : j = n := by omega
          go_wp2_with fail
          go_ret
          exact ⟨ret_b Hall.out.symm, _, Hw.out⟩
end Go.Proofs.YtiigfcggdjcmfaaDoor
