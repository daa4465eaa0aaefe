/- The library's ParseUint of at most two bytes at base 16 and 8 bits; package lines' escaped. Conditions: what start-up lays ('LCtx'). -/
import Derived.Test.YtenhgjpoigkdgaaGreatDoorLx2
import Derived.Laws.Bits64b
import Derived.Lib.ConvBytes
import Derived.Lib.SmallJoins
namespace Go.Proofs.YtenhgjpoigkdgaaGreatDoor.Ln
open Go.ChangeShapes Go.WideShapes Go.ChangeAt Go.RowKit
open Go.Proofs.YtenhgjpoigkdgaaGreatDoor.Lw

def hvs (acc : Nat) : List UInt8 → Option Nat
  | [] => some acc
  | c :: r => if hexN c < 16 then hvs (16 * acc + hexN c) r else none
def PU (o : Option Nat) (w : World) (e : Ending) (w' : World) : Prop := Below w.heap.size w w' ∧ match o with
  | some v => e = .returned (.tuple #[.int .u64 v, .nilIface])
  | none => e = .returned (.tuple #[.int .u64 0, .iface 134 (.int .i64 2)])
theorem lowF : ∀ n : Fin 256, 0 ≤ bits .or .u8 (n.1 : Int) 32 ∧ bits .or .u8 (n.1 : Int) 32 ≤ 255 ∧ (hexN (UInt8.ofNat n.1) < 16 → (48 ≤ n.1 ∧ n.1 ≤ 57 ∧ hexN (UInt8.ofNat n.1) = n.1 - 48) ∨ (¬ (48 ≤ n.1 ∧ n.1 ≤ 57) ∧ 97 ≤ bits .or .u8 (n.1 : Int) 32 ∧ bits .or .u8 (n.1 : Int) 32 ≤ 102 ∧ (hexN (UInt8.ofNat n.1) : Int) = bits .or .u8 (n.1 : Int) 32 - 87)) ∧
    (16 ≤ hexN (UInt8.ofNat n.1) → ¬ (48 ≤ n.1 ∧ n.1 ≤ 57) ∧ (bits .or .u8 (n.1 : Int) 32 < 97 ∨ 103 ≤ bits .or .u8 (n.1 : Int) 32)) := by decide +kernel
set_option maxRecDepth 100000 in
theorem lower_calls (c q : Int) (hq : bits .or .u8 c 32 = q) (w : World) : Calls Tryz.prog 92 #[.int .u8 c] w fun e w' => e = .returned (.int .u8 q) ∧ w = w' := by
  have HQ := Lib.hid hq
  clear hq
  go_enter Tryz.func92, Tryz.ntmps92
  go_wp2
  go_ret
  exact ⟨congrArg (fun x => Ending.returned (Value.int .u8 x)) HQ.out, rfl⟩
theorem drop_at {d : ByteArray} {k : Nat} (h : k < d.size) : d.data.toList.drop k = d[k] :: d.data.toList.drop (k + 1) := by
  rw [List.drop_eq_getElem_cons (by rw [len_of]; exact h)]; rfl
theorem drop_end {d : ByteArray} : d.data.toList.drop d.size = [] := by
  rw [List.drop_eq_nil_iff, len_of]; exact Nat.le_refl _
set_option maxHeartbeats 8000000 in
set_option maxRecDepth 1000000 in
theorem pu_inner (d : ByteArray) (h0 : 0 < d.size) (h2 : d.size ≤ 2) (w : World) : Calls Tryz.prog 80 #[.string d, .int .i64 16, .int .i64 8] w (PU (hvs 0 d.data.toList) w) := by
  have he : d.toList.isEmpty = false := by
    rw [Lib.toList_data]
    obtain ⟨c, r, e⟩ := cons_of h0
    rw [e]; rfl
  have hcv := Lib.run_convert_string_bytes (P := Tryz.prog) w 9 22 5 d (u := .string) Tryz.underlying9 Tryz.underlying22 Tryz.underlying5
  have hB : ∀ j, j < d.size → (Lib.bytesWorld w 5 d).cell? ⟨w.heap.size, j, none⟩ = some (.int .u8 (d.data.toList.getD j 0).toNat) := fun j hj => Lib.bytesWorld_cell w _ d j hj
  have hbw : Below w.heap.size w (Lib.bytesWorld w 5 d) := Go.Joins.below_bytesWorld _ w _ d (Nat.le_refl _)
  obtain ⟨W1, hW1⟩ : ∃ W1, W1 = Lib.bytesWorld w 5 d := ⟨_, rfl⟩
  rw [← hW1] at hcv hB hbw
  have HBW := Lib.hid hbw
  clear hW1 hbw
  obtain ⟨bs, hL⟩ : ∃ bs, bs = d.data.toList := ⟨_, rfl⟩
  have hLn : bs.length = d.size := by rw [hL, len_of]
  rw [← hL] at hB ⊢
  clear hL
  have hmv : IntKind.u64.wrap (IntKind.u64.wrap 256 - 1) = 255 := by
    rw [IntKind.wrap_u64, IntKind.wrap_u64]
    decide
  go_enter Tryz.func80, Tryz.ntmps80
  go_wp2
  go_loop [12, 13, 101] (fun vu vn vi => ∃ (k acc : Nat) (a : Int), vu = .bool false ∧ vn = .int .u64 a ∧ vi = .int .i64 k ∧ k ≤ d.size ∧ Hid (a = (acc : Int) ∧ (k = 0 → acc = 0) ∧ (k ≤ 1 → acc ≤ 15) ∧ acc ≤ 255 ∧ hvs 0 bs = hvs acc (bs.drop k)))
    (fun _ _ vi => d.size - (intOf vi).toNat)
  case atStart => exact ⟨0, 0, 0, rfl, rfl, rfl, by omega, rfl, fun _ => rfl, by omega, by omega, rfl⟩
  case round =>
    obtain ⟨k, acc, a, rfl, rfl, rfl, hk, hh⟩ := hrel
    obtain ⟨ha, hacc0, hacc1, hacc, hdec⟩ := hh.out
    clear hh
    have a0 : 0 ≤ a := by omega
    by_cases hkn : k < d.size
    · have a1 : a ≤ 15 := by omega
      have hc := hB k hkn
      have hdrop : bs.drop k = bs[k]'(by omega) :: bs.drop (k + 1) := List.drop_eq_getElem_cons (by omega)
      have hget : bs.getD k 0 = bs[k]'(by omega) := by simp [List.getD, List.getElem?_eq_getElem (show k < bs.length by omega)]
      rw [hdrop] at hdec
      rw [hget] at hc
      generalize bs[k]'(by omega) = c at hc hdec
      have hc256 : c.toNat < 256 := c.toNat_lt
      have hF := lowF ⟨c.toNat, c.toNat_lt⟩
      simp only [UInt8.ofNat_toNat] at hF
      obtain ⟨q0, q1, hy, hn⟩ := hF
      have HL : ∀ q, bits .or .u8 (c.toNat : Int) 32 = q → Hid (∀ w, Calls Tryz.prog 92 #[.int .u8 c.toNat] w fun e w' => e = .returned (.int .u8 q) ∧ w = w') := fun q e => Lib.hid (lower_calls _ q e)
      generalize bits .or .u8 (c.toNat : Int) 32 = q at *
      have HLq := HL q rfl
      clear HL hB hdrop hget
      by_cases h95 : c = 95
      · subst h95
        have hstep : hvs acc (95 :: bs.drop (k + 1)) = none := by rw [hvs, if_neg (by decide)]
        have HN : Hid (hvs 0 bs = none) := Lib.hid (hdec.trans hstep)
        have e95 : ((95 : UInt8).toNat : Int) = 95 := rfl
        rw [e95] at hc
        have HL95 := Lib.hid (lower_calls 95 127 (by decide))
        clear hy hn hstep hdec ha hacc0 hacc1 hacc HLq e95 q0 q1 hc256
        go_wp2_with (go_at_call 92; refine (HL95.out _).mono ?_; rintro en w1 ⟨rfl, rfl⟩)
        go_ret2
        exact ⟨HBW.out, by rw [HN.out]; exact rfl⟩
      have b95 : ((c.toNat : Int) == 95) = false := by
        rw [beq_eq_false_iff_ne]
        intro e
        exact h95 (UInt8.toNat_inj.1 (by show _ = 95; omega))
      clear h95
      by_cases hx : hexN c < 16
      · have hstep : hvs acc (c :: bs.drop (k + 1)) = hvs (16 * acc + hexN c) (bs.drop (k + 1)) := by rw [hvs, if_pos hx]
        have HN : Hid (hvs 0 bs = hvs (16 * acc + hexN c) (bs.drop (k + 1))) := Lib.hid (hdec.trans hstep)
        clear hstep hdec hn
        rcases hy hx with ⟨d0, d1, d2⟩ | ⟨nd, d0, d1, d2⟩
        · have HD2 := Lib.hid (And.intro d2 hacc0)
          have HA := Lib.hid ha
          clear hy d2 ha hacc0 hacc1 hacc HLq
          go_wp2
          go_round
          case rel =>
            have e1 := HA.out
            obtain ⟨e2, e3⟩ := HD2.out
            refine ⟨k + 1, 16 * acc + hexN c, _, rfl, rfl, by go_num, by omega, ?_⟩
            exact Lib.hid ⟨by omega, by omega, by omega, by omega, HN.out⟩
          case measure => simp [intOf]; omega
        · have HD2 := Lib.hid (And.intro d2 hacc0)
          have HA := Lib.hid ha
          have hz : q ≤ 122 := by omega
          have hlo : (c.toNat : Int) < 48 ∨ 57 < (c.toNat : Int) := by omega
          clear hy d2 ha hacc0 hacc1 hacc nd
          rcases hlo with hlo | hlo
          all_goals
            go_wp2_with (go_at_call 92; refine (HLq.out _).mono ?_; rintro en w1 ⟨rfl, rfl⟩)
            go_round
            case rel =>
              have e1 := HA.out
              obtain ⟨e2, e3⟩ := HD2.out
              refine ⟨k + 1, 16 * acc + hexN c, _, rfl, rfl, by go_num, by omega, ?_⟩
              exact Lib.hid ⟨by omega, by omega, by omega, by omega, HN.out⟩
            case measure => simp [intOf]; omega
      · have hstep : hvs acc (c :: bs.drop (k + 1)) = none := by rw [hvs, if_neg hx]
        have HN : Hid (hvs 0 bs = none) := Lib.hid (hdec.trans hstep)
        obtain ⟨nd, hq⟩ := hn (by omega)
        have hlo : (c.toNat : Int) < 48 ∨ 57 < (c.toNat : Int) := by omega
        have hq3 : q < 97 ∨ 122 < q ∨ 103 ≤ q ∧ q ≤ 122 := by omega
        clear hy hn hstep hdec ha hacc0 hacc1 hacc nd hx hq
        rcases hlo with hlo | hlo
        all_goals
          rcases hq3 with hq3 | hq3 | ⟨hq3, hq4⟩
          all_goals
            go_wp2_with (go_at_call 92; refine (HLq.out _).mono ?_; rintro en w1 ⟨rfl, rfl⟩)
            go_ret2
            exact ⟨HBW.out, by rw [HN.out]; exact rfl⟩
    · obtain rfl : k = d.size := by omega
      have hend : bs.drop d.size = [] := by rw [List.drop_eq_nil_iff]; omega
      rw [hend] at hdec
      have HN : Hid (hvs 0 bs = some acc) := Lib.hid hdec
      have HA := Lib.hid ha
      clear hdec hend ha hacc0 hacc1 hacc hB
      go_wp2
      go_ret2
      exact ⟨HBW.out, by rw [HN.out, HA.out]; exact rfl⟩
set_option maxRecDepth 1000000 in
theorem pu_empty (w : World) : Calls Tryz.prog 80 #[.string ⟨#[]⟩, .int .i64 16, .int .i64 8] w (PU none w) := by
  go_enter Tryz.func80, Tryz.ntmps80
  go_wp2
  go_ret2
  exact ⟨Below.refl _ _, rfl⟩
theorem pu_any (d : ByteArray) (h2 : d.size ≤ 2) (w : World) : Calls Tryz.prog 80 #[.string d, .int .i64 16, .int .i64 8] w (PU (if d.size = 0 then none else hvs 0 d.data.toList) w) := by
  by_cases h : d.size = 0
  · rw [if_pos h]
    obtain rfl : d = ⟨#[]⟩ := text_ext (List.eq_nil_of_length_eq_zero (by rw [len_of]; exact h))
    exact pu_empty w
  · rw [if_neg h]
    exact pu_inner d (by omega) h2 w
end Go.Proofs.YtenhgjpoigkdgaaGreatDoor.Ln
