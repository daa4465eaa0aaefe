/- Package lines' isPlain, appendQuoted. No condition but bounds. -/
import Derived.Test.YtenhgjpoigkdgaaGreatDoorLb1
import Derived.Test.YtenhgjpoigkdgaaGreatDoorLx8
import Derived.StillTailTactics
import Derived.Deep.RegionLawGrows
import Derived.Laws.Bits64b
namespace Go.Proofs.YtenhgjpoigkdgaaGreatDoor.Ln
open Go.ChangeShapes Go.WideShapes Go.ChangeAt Go.RowKit

/-- buf_push, as one step of a region that draws its order. -/
theorem step_buf_push {wb w : World} {v : Value} {l : List UInt8} {ops : Array Oper} {o : Oper} {a : Act} {K : Act → World → Prop} {Q : Exit → Act → World → Prop} {E : Prop} {W : World} {arr : Array Value} {Te : TypeId} (hW : W = (w.alloc (.cells arr Te)).drew) (hO : BufB wb w v l) (hgd : o.guard = none) (s x : Operand)
    (ho : o.op = .call { callee := .builtin .append, args := #[s, x], argTypes := #[22, 22] }) (hs : a.eval s = v) (bs : List UInt8) (m c : Nat)
    (hx : a.eval x = .slice (some ⟨w.heap.size, 0, none⟩) m c) (hm : m = bs.length) (harr : arr = (cellsB bs).toArray) (hl : l.length + bs.length ≤ 100000000000)
    (h : ∀ v' w', BufB wb w' v' (l ++ bs) → K (a.put o.dst v') w') : if Region.wanted o (yielded ops a.tmps) = true then Oper.wp Tryz.prog o a W K Q else E := by
  subst hW
  obtain ⟨i0, hi, hz0, hz1, hz2⟩ := info_parts i5
  subst hm harr
  have hsz := hO.size
  have hw : Region.wanted o (yielded ops a.tmps) = true := by simp [Region.wanted, hgd]
  rw [if_pos hw]
  have hcb := cellsB_len bs
  have hO2 : BufB wb (w.alloc (.cells (cellsB bs).toArray Te)).drew v l := (hO.alloc _).below (Below.refl _ _).drew
  have hcl := cellsB_len l
  obtain ⟨v', w', hrun, r1, r2, -⟩ := run_append_own (P := Tryz.prog) (w.alloc (.cells (cellsB bs).toArray Te)).drew wb.heap.size 22 o.type 5 i0 _ 1 1 Tryz.underlying22 hi hz0 hz1 hz2 rfl (by decide) v l.length (cellsB l) (by have := hO2.row; rwa [cellsB_len] at this) ⟨w.heap.size, 0, none⟩ bs.length c (cellsB bs) (by omega) (by
    intro j u hj
    rw [Addr.add_lit, Nat.zero_add]
    show (w.alloc _).cell? _ = _
    rw [World.cell?_alloc_new]
    simpa using hj) (cellsB_one bs) (by unfold maxLen; omega) (by omega) (by show wb.heap.size ≤ (w.alloc _).heap.size; simp; omega)
  unfold Oper.wp
  simp [execOp, ho, resolve, invoke, builtin, hs, hx, hrun, Result.andThen]
  refine h v' w' ?_
  refine hO2.grown ?_ r2
  rw [cellsB_len, List.length_append, cellsB_app]
  exact r1
theorem take_snoc (s : ByteArray) (k : Nat) (h : k < s.size) : s.data.toList.take (k + 1) = s.data.toList.take k ++ [s[k]] := by
  rw [List.take_succ_eq_append_getElem (by rw [len_of]; exact h)]; rfl
def hexS : ByteArray := ⟨#[48, 49, 50, 51, 52, 53, 54, 55, 56, 57, 97, 98, 99, 100, 101, 102]⟩
theorem hex_run (q : Nat) (hq : q < 16) (wx : World) : (Instr.index 9 (.string ⟨#[48, 49, 50, 51, 52, 53, 54, 55, 56, 57, 97, 98, 99, 100, 101, 102]⟩) (.int .u8 (q : Int))).run Tryz.prog wx = .ok (.int .u8 ((Lw.digC q).toNat : Int)) wx := by
  have h : ∀ q : Fin 16, (Instr.index 9 (.string ⟨#[48, 49, 50, 51, 52, 53, 54, 55, 56, 57, 97, 98, 99, 100, 101, 102]⟩) (.int .u8 (q.1 : Int))).run Tryz.prog wx = .ok (.int .u8 ((Lw.digC q.1).toNat : Int)) wx := by
    intro q
    have h1 : ((⟨#[48, 49, 50, 51, 52, 53, 54, 55, 56, 57, 97, 98, 99, 100, 101, 102]⟩ : ByteArray).size : Int) = 16 := rfl
    rw [run_index_string (P := Tryz.prog) (w := wx) 9 _ .u8 _ (by kernel_rfl), dif_pos (by rw [h1]; have := q.2; omega)]
    congr 3
    have h2 : ∀ q : Fin 16, ((⟨#[48, 49, 50, 51, 52, 53, 54, 55, 56, 57, 97, 98, 99, 100, 101, 102]⟩ : ByteArray).data.toList.getD q.1 0).toNat = (Lw.digC q.1).toNat := by decide +kernel
    rw [← h2 q]
    have h3 : q.1 < (⟨#[48, 49, 50, 51, 52, 53, 54, 55, 56, 57, 97, 98, 99, 100, 101, 102]⟩ : ByteArray).data.toList.length := q.2
    rw [List.getD_eq_getElem?_getD, List.getElem?_eq_getElem h3]
    rfl
  exact h ⟨q, hq⟩
theorem shrF : ∀ n : Fin 256, n.1 / 16 < 16 ∧ n.1 % 16 < 16 ∧ bits .and .u8 (n.1 : Int) 15 = ((n.1 % 16 : Nat) : Int) := by decide +kernel
theorem qlen (l m : List UInt8) : (l ++ 34 :: m.flatMap Lw.qByte).length ≤ l.length + 1 + 4 * m.length := by
  have hq : (m.flatMap Lw.qByte).length ≤ 4 * m.length := by
    induction m with
    | nil => simp
    | cons c m ih =>
      rw [List.flatMap_cons, List.length_append, List.length_cons]
      have : (Lw.qByte c).length ≤ 4 := by unfold Lw.qByte; split; simp; split <;> simp
      omega
  rw [List.length_append, List.length_cons]
  omega
set_option maxHeartbeats 8000000 in
set_option maxRecDepth 1000000 in
theorem appendQuoted_calls (wb w : World) (v : Value) (l : List UInt8) (s : ByteArray) (hB : BufB wb w v l) (hs : s.size ≤ 100000) (hl : l.length ≤ 100000000) :
    Calls Tryz.prog 21 #[v, .string s] w fun e w' => ∃ v', e = .returned v' ∧ BufB wb w' v' (l ++ Lw.qWord s.data.toList) := by
  have HB0 := Lib.hid hB
  clear hB
  go_enter Tryz.func21, Tryz.ntmps21
  go_wp2_with (at_builtin; refine buf_push HB0.out rfl _ _ rfl rfl [34] _ _ _ _ rfl rfl rfl ?hl1 ?_)
  case hl1 => simp only [List.length_cons, List.length_nil]; omega
  intro v1 w1 hB1
  have HB1 := Lib.hid hB1
  clear hB1
  go_wp2_with fail
  go_loopw [0, 5, 6, 12] (fun bv _ _ vi wr => ∃ k : Nat, vi = .int .i64 k ∧ k ≤ s.size ∧ BufB wb wr bv (l ++ 34 :: (s.data.toList.take k).flatMap Lw.qByte)) (fun _ _ _ vi _ => s.size - (intOf vi).toNat)
  case atStart => exact ⟨0, rfl, by omega, by simpa using HB1.out⟩
  case round =>
    obtain ⟨k, rfl, hk, hB⟩ := hrel
    have HB := Lib.hid hB
    clear hB
    by_cases hlt : k < s.size
    · have hts := take_snoc s k hlt
      have hlen : (l ++ 34 :: (s.data.toList.take k).flatMap Lw.qByte).length ≤ 1000000000 := by
        have := qlen l (s.data.toList.take k)
        rw [List.length_take, len_of] at this
        omega
      have HTS := Lib.hid hts
      have c256 : (s[k].toNat : Int) < 256 := by have := UInt8.toNat_lt s[k]; omega
      have Hstep : Hid (∀ c, s[k] = c → l ++ 34 :: (s.data.toList.take (k + 1)).flatMap Lw.qByte = (l ++ 34 :: (s.data.toList.take k).flatMap Lw.qByte) ++ Lw.qByte c) := Lib.hid fun c e => by
        rw [HTS.out, e]; simp
      generalize l ++ 34 :: (s.data.toList.take k).flatMap Lw.qByte = L at *
      clear hts
      have toC : ∀ n : Nat, n < 256 → ((s[k].toNat : Int) == (n : Int)) = true → s[k] = UInt8.ofNat n := by
        intro n hn h
        have : s[k].toNat = n := by have := eq_of_beq h; omega
        rw [← this, UInt8.ofNat_toNat]
      cases e34 : ((s[k].toNat : Int) == 34)
      case true =>
        have h34 := toC 34 (by omega) e34
        clear toC
        have Hq : Hid (l ++ 34 :: (s.data.toList.take (k + 1)).flatMap Lw.qByte = L ++ [92, 34]) := Lib.hid (by rw [Hstep.out _ rfl]; congr 1; unfold Lw.qByte; rw [if_pos (.inl h34), h34]; rfl)
        go_wp2_with (at_builtin; refine buf_push HB.out rfl _ _ rfl rfl [92, 34] _ _ _ _ rfl rfl rfl (by simp only [List.length_cons, List.length_nil]; omega) ?_)
        intro v2 w2 hB2
        all_goals (
          have HB2 := Lib.hid hB2
          clear hB2
          go_wp2_with fail
          go_roundw
          case rel => exact ⟨k + 1, by go_num, by omega, by rw [Hq.out]; exact HB2.out⟩
          case measure => simp [intOf]; omega)
      cases e92 : ((s[k].toNat : Int) == 92)
      case true =>
        have h92 := toC 92 (by omega) e92
        clear toC
        have Hq : Hid (l ++ 34 :: (s.data.toList.take (k + 1)).flatMap Lw.qByte = L ++ [92, 92]) := Lib.hid (by rw [Hstep.out _ rfl]; congr 1; unfold Lw.qByte; rw [if_pos (.inr h92), h92]; rfl)
        go_wp2_with (at_builtin; refine buf_push HB.out rfl _ _ rfl rfl [92, 92] _ _ _ _ rfl rfl rfl (by simp only [List.length_cons, List.length_nil]; omega) ?_)
        intro v2 w2 hB2
        all_goals (
          have HB2 := Lib.hid hB2
          clear hB2
          go_wp2_with fail
          go_roundw
          case rel => exact ⟨k + 1, by go_num, by omega, by rw [Hq.out]; exact HB2.out⟩
          case measure => simp [intOf]; omega)
      clear toC
      have hn : ¬ (s[k] = 34 ∨ s[k] = 92) := by
        rintro (h | h)
        · rw [h] at e34; exact absurd e34 (by decide)
        · rw [h] at e92; exact absurd e92 (by decide)
      by_cases h32 : (s[k].toNat : Int) < 32
      case pos =>
        have Hq : Hid (l ++ 34 :: (s.data.toList.take (k + 1)).flatMap Lw.qByte = L ++ [92, 120, Lw.digC (s[k].toNat / 16), Lw.digC (s[k].toNat % 16)]) := Lib.hid (by rw [Hstep.out _ rfl]; congr 1; unfold Lw.qByte; rw [if_neg hn, if_pos (.inl (by omega))])
        have hF := shrF ⟨s[k].toNat, UInt8.toNat_lt s[k]⟩
        go_wp2_with fail
        have hr1 : ∀ wx, (Instr.index 9 (.string ⟨#[48, 49, 50, 51, 52, 53, 54, 55, 56, 57, 97, 98, 99, 100, 101, 102]⟩) (.int .u8 ((s[k].toNat : Int) / 16))).run Tryz.prog wx = .ok (.int .u8 ((Lw.digC (s[k].toNat / 16)).toNat : Int)) wx := fun wx => hex_run _ hF.1 wx
        have hr2 : ∀ wx, (Instr.index 9 (.string ⟨#[48, 49, 50, 51, 52, 53, 54, 55, 56, 57, 97, 98, 99, 100, 101, 102]⟩) (.int .u8 (bits .and .u8 (s[k].toNat : Int) 15))).run Tryz.prog wx = .ok (.int .u8 ((Lw.digC (s[k].toNat % 16)).toNat : Int)) wx := fun wx => by rw [hF.2.2]; exact hex_run _ hF.2.1 wx
        generalize Lw.digC (s[k].toNat / 16) = d1 at *
        generalize Lw.digC (s[k].toNat % 16) = d2 at *
        clear hF
        go_region_law (
          refine step_buf_push (o := ⟨some 48, _, _, _, _, _⟩) rfl (HB.out.below ?_) rfl (.tmp 40) (.tmp 47) rfl ?_ [92, 120, d1, d2] 4 4 ?_ rfl ?_ (by simp only [List.length_cons, List.length_nil]; omega) ?_
          exact Below.refl _ _
          simp [Act.eval]
          simp [Act.eval]
          rfl
          intro v2 w2 hB2)
        all_goals (
          have HB2 := Lib.hid hB2
          clear hB2
          go_wp2_with fail
          go_roundw
          case rel => exact ⟨k + 1, by go_num, by omega, by rw [Hq.out]; exact HB2.out⟩
          case measure => simp [intOf]; omega)
      by_cases h126 : (126 : Int) < (s[k].toNat : Int)
      case pos =>
        have Hq : Hid (l ++ 34 :: (s.data.toList.take (k + 1)).flatMap Lw.qByte = L ++ [92, 120, Lw.digC (s[k].toNat / 16), Lw.digC (s[k].toNat % 16)]) := Lib.hid (by rw [Hstep.out _ rfl]; congr 1; unfold Lw.qByte; rw [if_neg hn, if_pos (.inr (by omega))])
        have hF := shrF ⟨s[k].toNat, UInt8.toNat_lt s[k]⟩
        go_wp2_with fail
        have hr1 : ∀ wx, (Instr.index 9 (.string ⟨#[48, 49, 50, 51, 52, 53, 54, 55, 56, 57, 97, 98, 99, 100, 101, 102]⟩) (.int .u8 ((s[k].toNat : Int) / 16))).run Tryz.prog wx = .ok (.int .u8 ((Lw.digC (s[k].toNat / 16)).toNat : Int)) wx := fun wx => hex_run _ hF.1 wx
        have hr2 : ∀ wx, (Instr.index 9 (.string ⟨#[48, 49, 50, 51, 52, 53, 54, 55, 56, 57, 97, 98, 99, 100, 101, 102]⟩) (.int .u8 (bits .and .u8 (s[k].toNat : Int) 15))).run Tryz.prog wx = .ok (.int .u8 ((Lw.digC (s[k].toNat % 16)).toNat : Int)) wx := fun wx => by rw [hF.2.2]; exact hex_run _ hF.2.1 wx
        generalize Lw.digC (s[k].toNat / 16) = d1 at *
        generalize Lw.digC (s[k].toNat % 16) = d2 at *
        clear hF
        go_region_law (
          refine step_buf_push (o := ⟨some 48, _, _, _, _, _⟩) rfl (HB.out.below ?_) rfl (.tmp 40) (.tmp 47) rfl ?_ [92, 120, d1, d2] 4 4 ?_ rfl ?_ (by simp only [List.length_cons, List.length_nil]; omega) ?_
          exact Below.refl _ _
          simp [Act.eval]
          simp [Act.eval]
          rfl
          intro v2 w2 hB2)
        all_goals (
          have HB2 := Lib.hid hB2
          clear hB2
          go_wp2_with fail
          go_roundw
          case rel => exact ⟨k + 1, by go_num, by omega, by rw [Hq.out]; exact HB2.out⟩
          case measure => simp [intOf]; omega)
      case neg =>
        have Hq : Hid (l ++ 34 :: (s.data.toList.take (k + 1)).flatMap Lw.qByte = L ++ [s[k]]) := Lib.hid (by rw [Hstep.out _ rfl]; congr 1; unfold Lw.qByte; rw [if_neg hn, if_neg (by omega)])
        clear hn
        go_wp2_with (at_builtin; refine buf_push HB.out rfl _ _ rfl rfl [s[k]] _ _ _ _ rfl rfl rfl (by simp only [List.length_cons, List.length_nil]; omega) ?_)
        intro v2 w2 hB2
        all_goals (
          have HB2 := Lib.hid hB2
          clear hB2
          go_wp2_with fail
          go_roundw
          case rel => exact ⟨k + 1, by go_num, by omega, by rw [Hq.out]; exact HB2.out⟩
          case measure => simp [intOf]; omega)
    · obtain rfl : k = s.size := by omega
      have hfin : l ++ Lw.qWord s.data.toList = (l ++ 34 :: (s.data.toList.take s.size).flatMap Lw.qByte) ++ [34] := by
        rw [List.take_of_length_le (by rw [len_of]; omega)]
        simp [Lw.qWord]
      have HF := Lib.hid hfin
      have hlen := qlen l (s.data.toList.take s.size)
      rw [List.length_take, len_of] at hlen
      clear hfin
      generalize l ++ 34 :: (s.data.toList.take s.size).flatMap Lw.qByte = L at *
      go_wp2_with (at_builtin; refine buf_push HB.out rfl _ _ rfl rfl [34] _ _ _ _ rfl rfl rfl (by simp only [List.length_cons, List.length_nil]; omega) ?_)
      intro v2 w2 hB2
      have HB2 := Lib.hid hB2
      clear hB2
      go_wp2_with fail
      go_ret
      exact ⟨v2, rfl, by rw [HF.out]; exact HB2.out⟩
end Go.Proofs.YtenhgjpoigkdgaaGreatDoor.Ln
