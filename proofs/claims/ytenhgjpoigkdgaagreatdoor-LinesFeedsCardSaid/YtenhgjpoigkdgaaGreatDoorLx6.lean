/- strconv.ParseUint of at most two bytes at base 16 and 8 bits; package lines' escaped. Conditions: what start-up lays ('LCtx'). -/
import Derived.Test.YtenhgjpoigkdgaaGreatDoorLx5
import Derived.Test.YtenhgjpoigkdgaaGreatDoorLays
import Derived.Shelf.Strconv.ToError
import Derived.Deep.QuietTactic
import Derived.BigQuiet
namespace Go.Proofs.YtenhgjpoigkdgaaGreatDoor.Ln
open Go.ChangeShapes Go.WideShapes Go.ChangeAt Go.RowKit
open Go.Proofs.YtenhgjpoigkdgaaGreatDoor.Lw

def hvo (d : ByteArray) : Option Nat := if d.size = 0 then none else hvs 0 d.data.toList
theorem pu_some (d : ByteArray) (h2 : d.size ≤ 2) (v : Nat) (h : hvo d = some v) (w : World) : Calls Tryz.prog 80 #[.string d, .int .i64 16, .int .i64 8] w fun e w' => e = .returned (.tuple #[.int .u64 v, .nilIface]) ∧ Below w.heap.size w w' := by
  have H := pu_any d h2 w
  unfold hvo at h
  rw [h] at H
  exact H.mono fun _ _ ⟨a, b⟩ => ⟨b, a⟩
theorem pu_none (d : ByteArray) (h2 : d.size ≤ 2) (h : hvo d = none) (w : World) : Calls Tryz.prog 80 #[.string d, .int .i64 16, .int .i64 8] w fun e w' => e = .returned (.tuple #[.int .u64 0, .iface 134 (.int .i64 2)]) ∧ Below w.heap.size w w' := by
  have H := pu_any d h2 w
  unfold hvo at h
  rw [h] at H
  exact H.mono fun _ _ ⟨a, b⟩ => ⟨b, a⟩
theorem toError_calls (fn s : ByteArray) (hs : s.size ≤ 281474976710656) (base bits : Int) (w : World) (hc : LCtx w) : Calls Tryz.prog 81 #[.string fn, .string s, .int .i64 base, .int .i64 bits, .iface 134 (.int .i64 2)] w
    fun e w' => ∃ N, e = .returned (.iface 135 (.pointer (some ⟨N, 0, none⟩))) ∧ Below w.heap.size w w' := by
  obtain ⟨t, p, hv⟩ := hc.syn
  have hg : Tryz.prog.globalNamed "strconv.ErrSyntax" = some 5 := by kernel_rfl
  refine (Any.strconv_toError_syntax Tryz.laysC245 fn s base bits (.iface t p) w hs ?_ (.inr ⟨t, p, rfl⟩)).mono fun e w' ⟨N, h1, _, _, h2⟩ => ⟨N, h1, h2⟩
  exact World.var?_cell hg hv 0
set_option maxRecDepth 1000000 in
theorem pu_yes (d : ByteArray) (h2 : d.size ≤ 2) (v : Nat) (h : hvo d = some v) (w : World) : Calls Tryz.prog 65 #[.string d, .int .i64 16, .int .i64 8] w fun e w' => e = .returned (.tuple #[.int .u64 v, .nilIface]) ∧ Below w.heap.size w w' := by
  have H := Lib.hid (pu_some d h2 v h)
  clear h
  go_enter Tryz.func65, Tryz.ntmps65
  go_wp2_with fail
  refine (H.out _).mono ?_; rintro en w1 ⟨rfl, hb⟩
  have Hb := Lib.hid hb
  clear hb
  go_wp2_with fail
  go_ret2
  exact ⟨rfl, Hb.out⟩
set_option maxRecDepth 1000000 in
theorem pu_no (d : ByteArray) (h2 : d.size ≤ 2) (h : hvo d = none) (w : World) (hc : LCtx w) : Calls Tryz.prog 65 #[.string d, .int .i64 16, .int .i64 8] w fun e w' => (∃ N, e = .returned (.tuple #[.int .u64 0, .iface 135 (.pointer (some ⟨N, 0, none⟩))])) ∧ Below w.heap.size w w' := by
  have H := Lib.hid (pu_none d h2 h)
  have HT := Lib.hid (fun w2 (hb : Below w.heap.size w w2) fn => toError_calls fn d (by omega) 16 8 w2 (hc.below hb))
  clear h hc
  go_enter Tryz.func65, Tryz.ntmps65
  go_wp2_with fail
  refine (H.out _).mono ?_; rintro en w1 ⟨rfl, hb⟩
  have Hb := Lib.hid hb
  clear hb
  go_wp2_with fail
  refine (HT.out _ Hb.out _).mono ?_; rintro en w2 ⟨N, rfl, hb2⟩
  have Hb2 := Lib.hid hb2
  clear hb2
  go_wp2_with fail
  go_ret2
  exact ⟨⟨N, rfl⟩, bstep Hb.out Hb2.out⟩

theorem hvs_two (a b : UInt8) : hvs 0 [a, b] = if hexN a < 16 ∧ hexN b < 16 then some (16 * hexN a + hexN b) else none := by
  show (if hexN a < 16 then (if hexN b < 16 then some (16 * (16 * 0 + hexN a) + hexN b) else none) else none) = _
  by_cases h1 : hexN a < 16 <;> by_cases h2 : hexN b < 16 <;> simp [h1, h2]
theorem esc_120 (r : List UInt8) : esc 120 r = escX r := by
  unfold esc
  rw [if_neg (by decide), if_neg (by decide), if_neg (by decide), if_pos rfl]
/-- What stands behind a backslash and an x. -/
theorem esc_x_yes {r : List UInt8} {d : ByteArray} (hd : d.data.toList = r.take 2) {v : Nat} (hv : hvo d = some v) (h2 : d.size = 2) : esc 120 r = (UInt8.ofNat v, r.drop 2) := by
  rw [← len_of, hd] at h2
  rw [esc_120]
  match r with
  | [] => cases h2
  | [a] => cases h2
  | a :: b :: r =>
    have h0 : ¬ d.size = 0 := by rw [← len_of, hd]; simp
    have hd2 : d.data.toList = [a, b] := hd
    unfold hvo at hv
    rw [if_neg h0, hd2, hvs_two] at hv
    rw [escX_two]
    split at hv
    · rename_i h
      rw [if_pos h]
      injection hv with hv
      rw [hv]
      rfl
    · cases hv
theorem esc_x_no {r : List UInt8} {d : ByteArray} (hd : d.data.toList = r.take 2) (hv : hvo d = none ∨ d.size ≠ 2) : esc 120 r = (120, r) := by
  rw [esc_120]
  match r with
  | [] => rfl
  | [a] => rfl
  | a :: b :: r =>
    have h2 : d.size = 2 := by rw [← len_of, hd]; rfl
    have hd2 : d.data.toList = [a, b] := hd
    rcases hv with hv | hv
    · unfold hvo at hv
      rw [if_neg (by omega), hd2, hvs_two] at hv
      rw [escX_two]
      split at hv
      · cases hv
      · rename_i h
        rw [if_neg h]
    · exact absurd h2 hv
theorem hvo_lt {d : ByteArray} (h2 : d.size ≤ 2) {v : Nat} (hv : hvo d = some v) : v < 256 := by
  unfold hvo at hv
  split at hv
  · cases hv
  · have hl := len_of d
    match hq : d.data.toList with
    | [] => rw [hq] at hl; simp at hl; omega
    | [a] =>
      rw [hq] at hv
      simp only [hvs] at hv
      split at hv
      · injection hv with hv; omega
      · cases hv
    | [a, b] =>
      rw [hq, hvs_two] at hv
      split at hv
      · injection hv with hv; omega
      · cases hv
    | a :: b :: c :: r => rw [hq] at hl; simp at hl; omega
set_option maxHeartbeats 4000000 in
set_option maxRecDepth 1000000 in
theorem escaped_calls : EscOK := by
  intro s c r w hc hcr hs
  have h0 : 0 < s.size := by rw [← len_of, hcr]; simp
  obtain ⟨h00, hc0⟩ := head_of hcr
  have htl := tail_of hcr
  have hrl : r.length + 1 = s.size := by rw [← len_of, hcr]; rfl
  have hT : s.extract 1 s.size = ⟨r.toArray⟩ := text_ext (by rw [bytes_of]; exact htl)
  have HC := Lib.hid hc
  have HT := Lib.hid hT
  have HC0 := Lib.hid hc0
  have HRL := Lib.hid hrl
  clear hc hT hc0 htl hcr hrl
  have hfin : ∀ (x : UInt8 × List UInt8) (e : Ending) (w' : World), Below w.heap.size w w' → x = esc c r → e = .returned (.tuple #[.int .u8 x.1.toNat, .string ⟨x.2.toArray⟩]) → (e = .returned (.tuple #[.int .u8 (esc c r).1.toNat, .string ⟨(esc c r).2.toArray⟩]) ∧ Below w.heap.size w w') := by
    intro x e w' h1 h2 h3
    subst h2
    exact ⟨h3, h1⟩
  have Hfin := Lib.hid hfin
  clear hfin
  have cc : ∀ k : Nat, k < 256 → ((s[0].toNat : Int) == (k : Int)) = true → c = UInt8.ofNat k := fun k hk h => by
    rw [u8_of hk] at h
    rw [← HC0.out]
    exact eq_of_beq h
  have cn : ∀ k : Nat, k < 256 → ((s[0].toNat : Int) == (k : Int)) = false → c ≠ UInt8.ofNat k := fun k hk h e => by
    rw [u8_of hk, HC0.out, e] at h
    simp at h
  have Hcc := Lib.hid cc
  have Hcn := Lib.hid cn
  clear cc cn
  cases e1 : ((s[0].toNat : Int) == 110)
  case true =>
    go_enter Tryz.func52, Tryz.ntmps52
    go_wp2_with fail
    go_quiet (fail)
    go_wp2_with fail
    go_ret2
    exact Hfin.out (10, r) _ _ (below_drewN _ _) (by rw [Hcc.out 110 (by omega) e1]; rfl) (by rw [← HT.out]; rfl)
  cases e2 : ((s[0].toNat : Int) == 114)
  case true =>
    go_enter Tryz.func52, Tryz.ntmps52
    go_wp2_with fail
    go_quiet (fail)
    go_wp2_with fail
    go_ret2
    exact Hfin.out (13, r) _ _ (below_drewN _ _) (by rw [Hcc.out 114 (by omega) e2]; rfl) (by rw [← HT.out]; rfl)
  cases e3 : ((s[0].toNat : Int) == 116)
  case true =>
    go_enter Tryz.func52, Tryz.ntmps52
    go_wp2_with fail
    go_quiet (fail)
    go_wp2_with fail
    go_ret2
    exact Hfin.out (9, r) _ _ (below_drewN _ _) (by rw [Hcc.out 116 (by omega) e3]; rfl) (by rw [← HT.out]; rfl)
  cases e4 : ((s[0].toNat : Int) == 120)
  case false =>
    go_enter Tryz.func52, Tryz.ntmps52
    go_wp2_with fail
    go_quiet (fail)
    go_wp2_with fail
    go_ret2
    exact Hfin.out (c, r) _ _ (below_drewN _ _) (by unfold esc; rw [if_neg (show ¬ c = 110 from Hcn.out 110 (by omega) e1), if_neg (show ¬ c = 114 from Hcn.out 114 (by omega) e2), if_neg (show ¬ c = 116 from Hcn.out 116 (by omega) e3), if_neg (show ¬ c = 120 from Hcn.out 120 (by omega) e4)]) (by rw [← HT.out, ← HC0.out]; rfl)
  case true =>
    have hc120 : c = 120 := Hcc.out 120 (by omega) e4
    subst hc120
    clear Hcc Hcn
    have hD : ∃ D : ByteArray, (s.extract 1 s.size).extract 0 (min (↑(s.size - 1)) (2 : Int)).toNat = D ∧ D.data.toList = r.take 2 ∧ D.size = min r.length 2 := by
      have e0 : (min (↑(s.size - 1)) (2 : Int)).toNat = min r.length 2 := by have := HRL.out; omega
      have e : ((s.extract 1 s.size).extract 0 (min (↑(s.size - 1)) (2 : Int)).toNat).data.toList = r.take 2 := by
        rw [e0, Lib.extract_data, HT.out, bytes_of, List.drop_zero]
        rcases Nat.lt_or_ge r.length 2 with h | h
        · rw [show min r.length 2 = r.length by omega, Nat.sub_zero, List.take_of_length_le (Nat.le_refl _), List.take_of_length_le (by omega)]
        · rw [show min r.length 2 = 2 by omega]
      exact ⟨_, rfl, e, by rw [← len_of, e, List.length_take, Nat.min_comm]⟩
    obtain ⟨D, hD, hDl, hDs⟩ := hD
    have hD2 : D.size ≤ 2 := by omega
    have HD := Lib.hid hD
    clear hD
    cases hv : hvo D with
    | none =>
        have H := Lib.hid (pu_no D hD2 hv)
        have HX := Lib.hid (esc_x_no hDl (.inl hv))
        clear hv hDl hDs
        go_enter Tryz.func52, Tryz.ntmps52
        go_wp2_with fail
        go_quiet (fail)
        have hb1 := Lib.hid (below_drewN w nq)
        generalize w.drewN nq = w1 at *
        go_wp2_with fail
        rw [HD.out]
        refine (H.out _ (HC.out.below hb1.out)).mono ?_; rintro en w2 ⟨⟨N, rfl⟩, hb2⟩
        have Hb2 := Lib.hid (bstep hb1.out hb2)
        clear hb2
        go_wp2_with fail
        go_ret2
        exact Hfin.out (120, r) _ _ Hb2.out (by rw [HX.out]) (by rw [← HT.out, ← HC0.out]; rfl)
    | some v =>
      by_cases hs2 : D.size = 2
      · have H := Lib.hid (pu_yes D hD2 v hv)
        have hlt := hvo_lt hD2 hv
        have hr2 : ((s.extract 1 s.size).extract 2 (s.size - 1)) = ⟨(r.drop 2).toArray⟩ := text_ext (by rw [bytes_of, Lib.extract_data, HT.out, bytes_of, List.take_of_length_le (by simp only [List.length_drop]; have := HRL.out; omega)])
        have HR2 := Lib.hid hr2
        have HX := Lib.hid (esc_x_yes hDl hv hs2)
        have hs3 : 3 ≤ s.size := by have := HRL.out; omega
        have hyes : ((D.size : Int) == 2) = true := by rw [hs2]; rfl
        have hw : IntKind.u8.wrap (v : Int) = (v : Int) := IntWalk.u8_in _ (by omega)
        have hx1 : (s.extract 1 s.size).size = s.size - 1 := by rw [HT.out, size_of]; have := HRL.out; omega
        clear hv hDl hr2 hs2 hDs
        go_enter Tryz.func52, Tryz.ntmps52
        go_wp2_with fail
        go_quiet (fail)
        have hb1 := Lib.hid (below_drewN w nq)
        generalize w.drewN nq = w1 at *
        go_wp2_with fail
        rw [HD.out]
        refine (H.out _).mono ?_; rintro en w2 ⟨rfl, hb2⟩
        have Hb2 := Lib.hid (bstep hb1.out hb2)
        clear hb2
        go_wp2_with fail
        go_quiet (fail)
        go_wp2_with fail
        go_ret2
        have ev : ((UInt8.ofNat v).toNat : Int) = (v : Int) := by simp; omega
        refine Hfin.out (UInt8.ofNat v, r.drop 2) _ _ (bstep Hb2.out (below_drewN _ _)) HX.out.symm ?_
        rw [← HR2.out, ev]
        rfl
      · have H := Lib.hid (pu_yes D hD2 v hv)
        have HX := Lib.hid (esc_x_no hDl (.inr (by omega)))
        have hne : ((D.size : Int) == 2) = false := by rw [beq_eq_false_iff_ne]; omega
        clear hv hDl hs2 hDs
        go_enter Tryz.func52, Tryz.ntmps52
        go_wp2_with fail
        go_quiet (fail)
        have hb1 := Lib.hid (below_drewN w nq)
        generalize w.drewN nq = w1 at *
        go_wp2_with fail
        rw [HD.out]
        refine (H.out _).mono ?_; rintro en w2 ⟨rfl, hb2⟩
        have Hb2 := Lib.hid (bstep hb1.out hb2)
        clear hb2
        go_wp2_with fail
        go_ret2
        exact Hfin.out (120, r) _ _ Hb2.out (by rw [HX.out]) (by rw [← HT.out, ← HC0.out]; rfl)
end Go.Proofs.YtenhgjpoigkdgaaGreatDoor.Ln
