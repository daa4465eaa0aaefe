/- bytes.IndexAny of CR LF at slices of two to eight bytes, and at every slice. Conditions: what start-up lays ('PCtx'); the variable MaxLen holds some int; the length's bound. -/
import Derived.Test.YtimgkbpiengnjaaGreatDoorLy4
namespace Go.Proofs.YtimgkbpiengnjaaGreatDoor.Ln
open Go.ChangeShapes Go.WideShapes Go.ChangeAt Go.RowKit

def MaxOk (w : World) : Prop := ∃ m : Int, w.cell? ⟨0, 0, none⟩ = some (.int .i64 m)
theorem MaxOk.below {w w' : World} (h : MaxOk w) (hb : Below w.heap.size w w') : MaxOk w' := by
  obtain ⟨m, hm⟩ := h
  exact ⟨m, (hb.cell (p := ⟨0, 0, none⟩) (World.block_lt_of_cell? w _ hm)).trans hm⟩
theorem istr_run (sub : ByteArray) (w : World) (m : Int) (hm : w.cell? ⟨0, 0, none⟩ = some (.int .i64 m)) (h3 : 3 ≤ sub.size) (hs : (sub.size : Int) ≤ m) :
    (callFunc 35 #[.string ⟨#[13, 10]⟩, .string sub]).run Tryz.prog w = .ok (.value (.int .i64 (-1))) w := by
  rw [run_callFunc_extern Tryz.func35 (by kernel_rfl) (by kernel_rfl) (by kernel_rfl) (e := Extern.BytealgIndex.index) (by kernel_rfl),
    Lib.run_indexString ⟨#[13, 10]⟩ sub w 0 m (by kernel_rfl) hm (by omega) hs (by decide)]
  rw [show (⟨#[13, 10]⟩ : ByteArray).data.toList = [13, 10] from rfl, index_long _ (by rw [len_of]; exact h3)]
  rfl
structure Enc (R k : Nat) : Prop where
  size : (Utf8.encode (R : Int)).size = k
/-- A loop's state. -/
def Mid (w : World) (l : List UInt8) (b o i : Nat) (wr : World) : Prop := PCtx wr ∧ MaxOk wr ∧ Below w.heap.size w wr ∧ (∀ j (hj : j < l.length), wr.cell? ⟨b, o + j, none⟩ = some (.int .u8 (l[j].toNat : Int))) ∧ ∀ j (hj : j < l.length), j < i → Lw.crlf l[j] = false
theorem Mid.step {w wr w' : World} {l : List UInt8} {b o i k : Nat} (h : Mid w l b o i wr) (hb : Below wr.heap.size wr w') (hk : ∀ j, j < k → ∃ hj : i + j < l.length, Lw.crlf l[i + j] = false) : Mid w l b o (i + k) w' := by
  obtain ⟨h1, h2, h3, h4, h5⟩ := h
  refine ⟨h1.below hb, h2.below hb, bstep h3 hb, fun j hj => (hb.cell (p := ⟨b, o + j, none⟩) (World.block_lt_of_cell? wr _ (h4 j hj))).trans (h4 j hj), fun j hj hjk => ?_⟩
  by_cases e : j < i
  · exact h5 j hj e
  · obtain ⟨hj2, h6⟩ := hk (j - i) (by omega)
    have : ∀ a (ha : a < l.length), a = j → Lw.crlf l[a] = false → Lw.crlf l[j] = false := fun a ha e h => by subst e; exact h
    exact this _ hj2 (by omega) h6
set_option maxHeartbeats 8000000 in
set_option maxRecDepth 1000000 in
theorem bany_mid (l : List UInt8) (h2 : 2 ≤ l.length) (h8 : l.length ≤ 8) (b o c : Nat) (hlc : l.length ≤ c) (hcm : c ≤ 9223372036854775807) (w : World) (hc : PCtx w) (hmx : MaxOk w) (hcell : ∀ i (hi : i < l.length), w.cell? ⟨b, o + i, none⟩ = some (.int .u8 (l[i].toNat : Int))) :
    Calls Tryz.prog 21 #[.slice (some ⟨b, o, none⟩) l.length c, .string ⟨#[13, 10]⟩] w fun e w' => e = .returned (.int .i64 (idxC l)) ∧ Below w.heap.size w w' := by
  have hn1 : ((l.length : Int) == 1) = false := by rw [beq_eq_false_iff_ne]; omega
  have h8z : decide ((8 : Int) < (l.length : Int)) = false := decide_eq_false (by omega)
  have HS : Hid (∀ w, Calls Tryz.prog 31 #[.int .i64 l.length] w fun e w' => e = .returned (.bool false) ∧ w = w') := Lib.hid fun w => by
    have h := should_calls (l.length : Int) w
    rw [h8z] at h
    exact h
  have HM0 : Hid (Mid w l b o 0 w) := Lib.hid ⟨hc, hmx, Below.refl _ _, hcell, fun j hj h => by omega⟩
  clear h8z hc hmx hcell
  go_enter Tryz.func21, Tryz.ntmps21
  go_wp2_with fail
  refine (HS.out _).mono ?_; rintro en w1 ⟨rfl, rfl⟩
  go_wp2_with fail
  go_loopg [11, 12, 13, 15] l.length (fun g _ vi _ _ wr => ∃ i : Nat, vi = .int .i64 i ∧ i ≤ l.length ∧ l.length ≤ i + g ∧ Hid (Mid w l b o i wr))
  case atStart => exact ⟨0, rfl, by omega, by omega, HM0⟩
  case round =>
    obtain ⟨i, rfl, hi, hig, hM⟩ := hrel
    by_cases hlt : i < l.length
    · have hcx := hM.out.2.2.2.1 i hlt
      have hxd : ∃ x, l[i] = x := ⟨_, rfl⟩
      obtain ⟨x, hx⟩ := hxd
      rw [hx] at hcx
      have x256 : (x.toNat : Int) < 256 := by have := x.toNat_lt; omega
      have HX := Lib.hid hx
      clear hx
      by_cases h128 : x.toNat < 128
      · obtain ⟨k1, k2, k3⟩ := byte_small x h128
        have hlt8 : (x.toNat : Int) < 128 := by omega
        have hix : (ByteArray.mk #[13, 10]).data.toList = [13, 10] := rfl
        have hxe : ((x.toNat : Int)).toNat.toUInt8 = x := by simp
        have hrun := fun wx => ibs_run ⟨#[13, 10]⟩ (x.toNat : Int) wx
        rw [hix, hxe] at hrun
        generalize hQ : Lib.indexByte [13, 10] x = q at *
        clear hix hxe hQ
        by_cases hq : 0 ≤ q
        · have HY := Lib.hid (k1.1 hq)
          clear k1
          go_wp2_with fail
          go_ret
          exact ⟨by rw [idxC_yes hlt (by rw [HX.out]; exact HY.out) hM.out.2.2.2.2]; rfl, hM.out.2.2.1⟩
        · have HY : Hid (Lw.crlf x = false) := Lib.hid ((Bool.not_eq_true _).mp fun h => hq (k1.2 h))
          clear k1
          go_wp2_with fail
          go_roundg (gk - 1)
          case measure => omega
          case rel => exact ⟨i + 1, by go_num, by omega, by omega, Lib.hid (hM.out.step (Below.refl _ _) fun j hj => ⟨by omega, by
            have : ∀ a (ha : a < l.length), a = i → Lw.crlf l[a] = false := fun a ha e => by subst e; rw [HX.out]; exact HY.out
            exact this _ (by omega) (by omega)⟩)⟩
      · have hge : (128 : Int) ≤ (x.toNat : Int) := by omega
        have hdrop : l.drop i = x :: l.drop (i + 1) := by rw [List.drop_eq_getElem_cons hlt, HX.out]
        obtain ⟨R, k, hdec, hR1, hR2, hk1, hk2, hsh, hkk⟩ := dec_facts (l.drop i) x _ hdrop (by omega)
        have hdl : (l.drop i).length = l.length - i := List.length_drop
        have HD := dec_calls (l.drop i) b (o + i) (c - i) wr hM.out.1.u8 fun j hj => by
          rw [Nat.add_assoc, hM.out.2.2.2.1 (i + j) (by omega), List.getElem_drop]
        rw [hdec, hdl] at HD
        have HDD := Lib.hid HD
        have HK : Hid (∀ j, j < k → ∃ hj : i + j < l.length, Lw.crlf l[i + j] = false) := Lib.hid fun j hj => by
          obtain ⟨h1, h2⟩ := hkk j hj
          rw [hdl] at h1
          rw [List.getElem_drop] at h2
          exact ⟨by omega, h2⟩
        have hik : i + k ≤ l.length := by
          obtain ⟨h1, -⟩ := HK.out (k - 1) (by omega)
          omega
        have hci : ¬ (c = i) := by omega
        have hR0 : (128 : Int) ≤ (R : Int) := by omega
        have hRm : (R : Int) ≤ 1114111 := by omega
        clear HD hdec hdrop hdl hkk
        have n13 : ((R : Int) == 13) = false := by rw [beq_eq_false_iff_ne]; omega
        have n10 : ((R : Int) == 10) = false := by rw [beq_eq_false_iff_ne]; omega
        have n13b : ((R : Int) == (((⟨#[13, 10]⟩ : ByteArray)[0]'(by decide)).toNat : Int)) = false := n13
        have n10b : ((R : Int) == (((⟨#[13, 10]⟩ : ByteArray)[1]'(by decide)).toNat : Int)) = false := n10
        rcases hsh with hE | hsh
        · have hne : ((R : Int) != 65533) = false := by subst hE; rfl
          clear hE
          go_wp2_with fail
          refine HDD.out.mono ?_; rintro en w3 ⟨rfl, hb3⟩
          have Hb3 := Lib.hid hb3
          have n0 := fun ty => run_next_ascii (P := Tryz.prog) w3 ⟨#[13, 10]⟩ 0 ty (by decide) (by decide)
          have n1 := fun ty => run_next_ascii (P := Tryz.prog) w3 ⟨#[13, 10]⟩ 1 ty (by decide) (by decide)
          have n2 := fun ty => run_next_end (P := Tryz.prog) w3 ⟨#[13, 10]⟩ 2 ty (by decide)
          clear hb3
          go_wp2_with fail
          refine wp_loop_rounds 3 ?_
          rw [rounds_succ]
          go_wp2_with fail
          rw [rounds_succ]
          go_wp2_with fail
          rw [rounds_succ]
          go_wp2_with fail
          go_roundg (gk - 1)
          case measure => omega
          case rel => exact ⟨i + k, by go_num, by omega, by omega, Lib.hid (hM.out.step (bstep Hb3.out (below_iter _ _ _)) HK.out)⟩
        · by_cases h65 : R = 65533
          · have hne : ((R : Int) != 65533) = false := by subst h65; rfl
            clear h65 hsh
            go_wp2_with fail
            refine HDD.out.mono ?_; rintro en w3 ⟨rfl, hb3⟩
            have Hb3 := Lib.hid hb3
            have n0 := fun ty => run_next_ascii (P := Tryz.prog) w3 ⟨#[13, 10]⟩ 0 ty (by decide) (by decide)
            have n1 := fun ty => run_next_ascii (P := Tryz.prog) w3 ⟨#[13, 10]⟩ 1 ty (by decide) (by decide)
            have n2 := fun ty => run_next_end (P := Tryz.prog) w3 ⟨#[13, 10]⟩ 2 ty (by decide)
            clear hb3
            go_wp2_with fail
            refine wp_loop_rounds 3 ?_
            rw [rounds_succ]
            go_wp2_with fail
            rw [rounds_succ]
            go_wp2_with fail
            rw [rounds_succ]
            go_wp2_with fail
            go_roundg (gk - 1)
            case measure => omega
            case rel => exact ⟨i + k, by go_num, by omega, by omega, Lib.hid (hM.out.step (bstep Hb3.out (below_iter _ _ _)) HK.out)⟩
          · have hne : ((R : Int) != 65533) = true := by rw [bne_iff_ne]; omega
            obtain ⟨hes, eb, el, hel, heb⟩ := enc_size R k hsh
            have heq : ((⟨#[13, 10]⟩ : ByteArray).toList == (Utf8.encode (R : Int)).toList) = false := by
              rw [Lib.toList_data, Lib.toList_data, hel, beq_eq_false_iff_ne]
              intro e
              have e : [13, 10] = eb :: el := e
              injection e with e _
              rw [← e] at heb
              exact absurd heb (by decide)
            have hl2 : (⟨#[13, 10]⟩ : ByteArray).toList = [13, 10] := by rw [Lib.toList_data]
            have heq2 := heq
            rw [hl2] at heq2
            clear hl2
            clear hel heb
            by_cases hk2' : k = 2
            · subst hk2'
              clear hsh h65 hes
              go_wp2_with fail
              refine HDD.out.mono ?_; rintro en w3 ⟨rfl, hb3⟩
              have Hb3 := Lib.hid hb3
              clear hb3
              go_wp2_with fail
              go_roundg (gk - 1)
              case measure => omega
              case rel => exact ⟨i + 2, by go_num, by omega, by omega, Lib.hid (hM.out.step Hb3.out HK.out)⟩
            · have HE : Enc R k := ⟨hes⟩
              have hk3 : 3 ≤ k := by omega
              have h2k : ((2 : Int) == (k : Int)) = false := by rw [beq_eq_false_iff_ne]; omega
              clear hsh h65 hes hk2'
              go_wp2_with fail
              refine HDD.out.mono ?_; rintro en w3 ⟨rfl, hb3⟩
              have Hb3 := Lib.hid hb3
              clear hb3
              obtain ⟨m, hm⟩ := hM.out.2.1.below Hb3.out
              by_cases hmk : (k : Int) ≤ m
              · have hrun := istr_run (Utf8.encode (R : Int)) w3 m hm (by rw [HE.size]; exact hk3) (by rw [HE.size]; exact hmk)
                clear HE
                go_wp2_with fail
                go_roundg (gk - 1)
                case measure => omega
                case rel => exact ⟨i + k, by go_num, by omega, by omega, Lib.hid (hM.out.step Hb3.out HK.out)⟩
              · have n0 := fun ty => run_next_ascii (P := Tryz.prog) w3 ⟨#[13, 10]⟩ 0 ty (by decide) (by decide)
                have n1 := fun ty => run_next_ascii (P := Tryz.prog) w3 ⟨#[13, 10]⟩ 1 ty (by decide) (by decide)
                have n2 := fun ty => run_next_end (P := Tryz.prog) w3 ⟨#[13, 10]⟩ 2 ty (by decide)
                go_wp2_with fail
                refine wp_loop_rounds 3 ?_
                rw [rounds_succ]
                go_wp2_with fail
                rw [rounds_succ]
                go_wp2_with fail
                rw [rounds_succ]
                go_wp2_with fail
                go_roundg (gk - 1)
                case measure => omega
                case rel => exact ⟨i + k, by go_num, by omega, by omega, Lib.hid (hM.out.step (bstep Hb3.out (below_iter _ _ _)) HK.out)⟩
    · obtain rfl : i = l.length := by omega
      go_wp2_with fail
      go_ret
      exact ⟨by rw [idxC_no fun j hj => hM.out.2.2.2.2 j hj hj]; rfl, hM.out.2.2.1⟩
theorem bany_calls (l : List UInt8) (hm : l.length ≤ 1000000) (a : Option Addr) (c : Nat) (w : World) (hc : PCtx w) (hmx : MaxOk w) (hB : InB w a c l) :
    Calls Tryz.prog 21 #[.slice a l.length c, .string ⟨#[13, 10]⟩] w fun e w' => e = .returned (.int .i64 (idxC l)) ∧ Below w.heap.size w w' := by
  by_cases h0 : l.length = 0
  · obtain rfl : l = [] := List.eq_nil_of_length_eq_zero h0
    exact bany_empty a c w
  · obtain ⟨g, o, rfl, hcell⟩ := hB.cell (by omega)
    by_cases h1 : l.length = 1
    · match l, h1 with
      | [x], _ => exact bany_one x g o c w (hcell 0 (by simp))
    · by_cases h8 : l.length ≤ 8
      · exact bany_mid l (by omega) h8 g o c hB.cap hB.max w hc hmx hcell
      · exact bany_long l (by omega) hm g o c w hcell
end Go.Proofs.YtimgkbpiengnjaaGreatDoor.Ln
