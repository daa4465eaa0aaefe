/- Package lines' Quote. Words of at most 4096 bytes, at most 64 of them. -/
import Derived.Test.YtenhgjpoigkdgaaGreatDoorLq2
import Derived.Test.YtenhgjpoigkdgaaGreatDoorLo1
namespace Go.Proofs.YtenhgjpoigkdgaaGreatDoor.Lw
theorem quote_snoc (l : List (List UInt8)) (w : List UInt8) : ∀ i, quoteFrom i (l ++ [w]) = quoteFrom i l ++ ((if i + l.length = 0 then [] else [32]) ++ wordQ (i + l.length) w) := by
  induction l with
  | nil => intro i; simp [quoteFrom]
  | cons x l ih =>
    intro i
    rw [List.cons_append, quoteFrom, quoteFrom, ih, List.length_cons, show i + 1 + l.length = i + (l.length + 1) by omega]
    simp only [List.append_assoc]
theorem qword_len (w : List UInt8) : (qWord w).length ≤ 4 * w.length + 2 := by
  have hq : (w.flatMap qByte).length ≤ 4 * w.length := by
    induction w with
    | nil => simp
    | cons c m ih =>
      rw [List.flatMap_cons, List.length_append, List.length_cons]
      have : (qByte c).length ≤ 4 := by unfold qByte; split; simp; split <;> simp
      omega
  unfold qWord
  rw [List.length_cons, List.length_append, List.length_singleton]
  omega
theorem quote_len (l : List (List UInt8)) (h : ∀ w ∈ l, w.length ≤ 4096) : ∀ i, (quoteFrom i l).length ≤ l.length * 16400 := by
  induction l with
  | nil => intro i; simp [quoteFrom]
  | cons x l ih =>
    intro i
    have h1 := ih (fun w hw => h w (List.mem_cons_of_mem _ hw)) (i + 1)
    have h2 := h x (List.mem_cons_self ..)
    have h3 := qword_len x
    have h4 : (wordQ i x).length ≤ 4 * x.length + 2 := by unfold wordQ; split <;> omega
    have h5 : (if i = 0 then ([] : List UInt8) else [32]).length ≤ 1 := by split <;> simp
    rw [quoteFrom, List.length_append, List.length_append, List.length_cons]
    omega
end Go.Proofs.YtenhgjpoigkdgaaGreatDoor.Lw
namespace Go.Proofs.YtenhgjpoigkdgaaGreatDoor.Ln
open Go.ChangeShapes Go.WideShapes Go.ChangeAt Go.RowKit
/-- The texts l lie at a. -/
def InS (w : World) (a : Option Addr) (l : List (List UInt8)) : Prop := ∀ i (hi : i < l.length), ∃ g, a = some ⟨g, 0, none⟩ ∧ w.cell? ⟨g, i, none⟩ = some (.string ⟨l[i].toArray⟩)
theorem InS.below {w w' : World} {a : Option Addr} {l : List (List UInt8)} (h : InS w a l) (hb : Below w.heap.size w w') : InS w' a l := by
  intro i hi
  obtain ⟨g, e, hc⟩ := h i hi
  refine ⟨g, e, (hb.cell (p := ⟨g, i, none⟩) ?_).trans hc⟩
  show g < w.heap.size
  simp only [World.cell?] at hc
  cases hg : w.heap[g]? with
  | none => rw [hg] at hc; cases hc
  | some o => exact (Array.getElem?_eq_some_iff.1 hg).1
set_option maxHeartbeats 8000000 in
set_option maxRecDepth 1000000 in
theorem quote_calls (w : World) (a : Option Addr) (c : Nat) (l : List (List UInt8)) (hl : l.length ≤ 64) (hw : ∀ t ∈ l, t.length ≤ 4096) (hin : InS w a l) (hc1 : l.length ≤ c) (hc2 : c ≤ 9223372036854775807) :
    Calls Tryz.prog 13 #[.slice a l.length c] w fun e w' => e = .returned (.string ⟨(Lw.quoteFrom 0 l).toArray⟩) ∧ Below w.heap.size w w' := by
  have HI := Lib.hid hin
  have HW := Lib.hid hw
  clear hin hw
  go_enter Tryz.func13, Tryz.ntmps13
  go_wp2_with fail
  go_loopw [3, 4, 5, 8] (fun bv _ _ vi wr => ∃ k : Nat, vi = .int .i64 k ∧ k ≤ l.length ∧ BufB w wr bv (Lw.quoteFrom 0 (l.take k))) (fun _ _ _ vi _ => l.length - (intOf vi).toNat)
  case atStart => exact ⟨0, rfl, by omega, (Row.nil w : BufB w w _ [])⟩
  case round =>
    obtain ⟨k, rfl, hk, hB⟩ := hrel
    have HB := Lib.hid hB
    clear hB
    by_cases hlt : k < l.length
    · obtain ⟨g, rfl, hcell⟩ := HI.out k hlt
      have hcell := (HB.out.bel.cell (p := ⟨g, k, none⟩) (by
        show g < w.heap.size
        simp only [World.cell?] at hcell
        cases hg : w.heap[g]? with
        | none => rw [hg] at hcell; cases hcell
        | some o => exact (Array.getElem?_eq_some_iff.1 hg).1)).trans hcell
      have ht : (l.take (k + 1)) = l.take k ++ [l[k]] := by rw [List.take_succ_eq_append_getElem hlt]
      have hq : Lw.quoteFrom 0 (l.take (k + 1)) = Lw.quoteFrom 0 (l.take k) ++ ((if k = 0 then [] else [32]) ++ Lw.wordQ k l[k]) := by
        rw [ht, Lw.quote_snoc, List.length_take, Nat.min_eq_left hk, Nat.zero_add]
      have hlen := Lw.quote_len (l.take k) (fun t h => HW.out t (List.mem_of_mem_take h)) 0
      rw [List.length_take, Nat.min_eq_left hk] at hlen
      have hlw := HW.out l[k] (List.getElem_mem _)
      have HQ := Lib.hid hq
      generalize Lw.quoteFrom 0 (l.take k) = L at *
      generalize l[k] = word at *
      clear ht hq
      have hsz : (⟨word.toArray⟩ : ByteArray).size = word.length := size_of word
      have hdt : (⟨word.toArray⟩ : ByteArray).data.toList = word := bytes_of word
      generalize hS : (⟨word.toArray⟩ : ByteArray) = S at *
      have HD := Lib.hid hdt
      have HP := Lib.hid (fun (w : World) (b : Bool) (hb : (!S.data.toList.isEmpty && S.data.toList.all Lw.plainC) = b) => isPlain_calls w S (by omega) b hb)
      have HA := Lib.hid (fun (v : Value) (L2 : List UInt8) (w2 : World) (h : BufB w w2 v L2) (hl2 : L2.length ≤ 2000000) => appendQuoted_calls w w2 v L2 S h (by omega) (by omega))
      have HK0 : Hid (∀ b, (!S.data.toList.isEmpty && S.data.toList.all Lw.plainC) = b → Lw.isPl k word = (b && (decide (0 < k) || !(word.head? == some 42)))) := Lib.hid fun b h => by rw [← h, HD.out]; rfl
      cases hb : (!S.data.toList.isEmpty && S.data.toList.all Lw.plainC)
      case true =>
        have Hb := Lib.hid hb
        have h0 : 0 < S.size := by
          rw [HD.out] at hb
          cases word with
          | nil => simp at hb
          | cons x y => rw [hsz, List.length_cons]; omega
        have hh : word.head? = some S[0] := by
          have e : S.data.toList.head? = some S[0] := by
            rw [List.head?_eq_getElem?, List.getElem?_eq_getElem (by rw [len_of]; exact h0)]; rfl
          rwa [HD.out] at e
        by_cases hk0 : k = 0
        · subst hk0
          have hpl := HK0.out _ hb
          rw [hh] at hpl
          clear hb hh
          cases e42 : ((S[0].toNat : Int) == 42)
          case true =>
            have e1 : S[0] = 42 := by
              have h : S[0].toNat = 42 := by have := eq_of_beq e42; omega
              have h2 := UInt8.ofNat_toNat (x := S[0])
              rw [h] at h2
              exact h2.symm
            rw [e1] at hpl
            have HPL : Hid (Lw.isPl 0 word = false) := Lib.hid (hpl.trans (by decide))
            clear hpl e1
            have HF : Hid (Lw.quoteFrom 0 (l.take (0 + 1)) = L ++ Lw.qWord word) := Lib.hid (by rw [HQ.out]; unfold Lw.wordQ; rw [HPL.out, if_neg (show ¬ (false = true) by decide)]; simp)
            go_wp2_with fail
            refine (HP.out _ true Hb.out).mono ?_
            rintro en wz ⟨rfl, rfl⟩
            go_wp2_with fail
            refine (HA.out _ _ _ HB.out (by first | omega | (simp only [List.length_append, List.length_cons, List.length_nil]; omega))).mono ?_
            rintro en w3 ⟨v3, rfl, hB3⟩
            have HB3 : Hid (BufB w w3 v3 (L ++ Lw.qWord word)) := Lib.hid (by first | (rw [HD.out] at hB3; exact hB3) | (simpa [HD.out] using hB3))
            clear hB3
            go_wp2_with fail
            go_roundw
            case rel => exact ⟨0 + 1, by go_num, by omega, by rw [HF.out]; exact HB3.out⟩
            case measure => simp [intOf]; omega
          case false =>
            have e1 : (some S[0] == some (42 : UInt8)) = false := by
              rw [beq_eq_false_iff_ne]
              intro h
              injection h with h
              rw [h] at e42
              exact absurd e42 (by decide)
            rw [e1] at hpl
            have HPL : Hid (Lw.isPl 0 word = true) := Lib.hid (hpl.trans (by decide))
            clear hpl e1
            have HF : Hid (Lw.quoteFrom 0 (l.take (0 + 1)) = L ++ word) := Lib.hid (by rw [HQ.out]; unfold Lw.wordQ; rw [HPL.out, if_pos (show true = true from rfl)]; simp)
            go_wp2_with fail
            refine (HP.out _ true Hb.out).mono ?_
            rintro en wz ⟨rfl, rfl⟩
            go_wp2_with (at_builtin; refine buf_pushS HB.out rfl _ _ rfl rfl S rfl (by first | omega | (simp only [List.length_append, List.length_cons, List.length_nil]; omega)) ?_)
            intro v3 w3 hB3
            have HB3 : Hid (BufB w w3 v3 (L ++ word)) := Lib.hid (by first | (rw [HD.out] at hB3; exact hB3) | (simpa [HD.out] using hB3))
            clear hB3
            go_wp2_with fail
            go_roundw
            case rel => exact ⟨0 + 1, by go_num, by omega, by rw [HF.out]; exact HB3.out⟩
            case measure => simp [intOf]; omega
        · have HK := Lib.hid hk0
          have HPL : Hid (Lw.isPl k word = true) := Lib.hid (by rw [HK0.out _ hb, decide_eq_true (by omega)]; rfl)
          clear hb hh
          have HF : Hid (Lw.quoteFrom 0 (l.take (k + 1)) = L ++ [32] ++ word) := Lib.hid (by rw [HQ.out]; unfold Lw.wordQ; rw [HPL.out, if_pos (show true = true from rfl)]; rw [if_neg HK.out]; simp)
          go_wp2_with (at_builtin; refine buf_push HB.out rfl _ _ rfl rfl [32] _ _ _ _ rfl rfl rfl (by simp only [List.length_cons, List.length_nil]; omega) ?_)
          intro v2 w2 hB2
          have HB := Lib.hid hB2
          clear hB2
          go_wp2_with fail
          refine (HP.out _ true Hb.out).mono ?_
          rintro en wz ⟨rfl, rfl⟩
          go_wp2_with (at_builtin; refine buf_pushS HB.out rfl _ _ rfl rfl S rfl (by first | omega | (simp only [List.length_append, List.length_cons, List.length_nil]; omega)) ?_)
          intro v3 w3 hB3
          have HB3 : Hid (BufB w w3 v3 (L ++ [32] ++ word)) := Lib.hid (by first | (rw [HD.out] at hB3; exact hB3) | (simpa [HD.out] using hB3))
          clear hB3
          go_wp2_with fail
          go_roundw
          case rel => exact ⟨k + 1, by go_num, by omega, by rw [HF.out]; exact HB3.out⟩
          case measure => simp [intOf]; omega
      case false =>
        have Hb := Lib.hid hb
        have HPL : Hid (Lw.isPl k word = false) := Lib.hid (by rw [HK0.out _ hb]; rfl)
        clear hb
        by_cases hk0 : k = 0
        · subst hk0
          have HF : Hid (Lw.quoteFrom 0 (l.take (0 + 1)) = L ++ Lw.qWord word) := Lib.hid (by rw [HQ.out]; unfold Lw.wordQ; rw [HPL.out, if_neg (show ¬ (false = true) by decide)]; simp)
          go_wp2_with fail
          refine (HP.out _ false Hb.out).mono ?_
          rintro en wz ⟨rfl, rfl⟩
          go_wp2_with fail
          refine (HA.out _ _ _ HB.out (by first | omega | (simp only [List.length_append, List.length_cons, List.length_nil]; omega))).mono ?_
          rintro en w3 ⟨v3, rfl, hB3⟩
          have HB3 : Hid (BufB w w3 v3 (L ++ Lw.qWord word)) := Lib.hid (by first | (rw [HD.out] at hB3; exact hB3) | (simpa [HD.out] using hB3))
          clear hB3
          go_wp2_with fail
          go_roundw
          case rel => exact ⟨0 + 1, by go_num, by omega, by rw [HF.out]; exact HB3.out⟩
          case measure => simp [intOf]; omega
        · have HK := Lib.hid hk0
          have HF : Hid (Lw.quoteFrom 0 (l.take (k + 1)) = L ++ [32] ++ Lw.qWord word) := Lib.hid (by rw [HQ.out]; unfold Lw.wordQ; rw [HPL.out, if_neg (show ¬ (false = true) by decide)]; rw [if_neg HK.out]; simp)
          go_wp2_with (at_builtin; refine buf_push HB.out rfl _ _ rfl rfl [32] _ _ _ _ rfl rfl rfl (by simp only [List.length_cons, List.length_nil]; omega) ?_)
          intro v2 w2 hB2
          have HB := Lib.hid hB2
          clear hB2
          go_wp2_with fail
          refine (HP.out _ false Hb.out).mono ?_
          rintro en wz ⟨rfl, rfl⟩
          go_wp2_with fail
          refine (HA.out _ _ _ HB.out (by first | omega | (simp only [List.length_append, List.length_cons, List.length_nil]; omega))).mono ?_
          rintro en w3 ⟨v3, rfl, hB3⟩
          have HB3 : Hid (BufB w w3 v3 (L ++ [32] ++ Lw.qWord word)) := Lib.hid (by first | (rw [HD.out] at hB3; exact hB3) | (simpa [HD.out] using hB3))
          clear hB3
          go_wp2_with fail
          go_roundw
          case rel => exact ⟨k + 1, by go_num, by omega, by rw [HF.out]; exact HB3.out⟩
          case measure => simp [intOf]; omega
    · obtain rfl : k = l.length := by omega
      have hR : Hid (BufB w wr u3 (Lw.quoteFrom 0 l)) := Lib.hid (by have := HB.out; rwa [List.take_of_length_le (Nat.le_refl _)] at this)
      have hconv := buf_conv hR.out
      go_wp2_with fail
      go_ret
      exact ⟨rfl, hR.out.bel⟩
end Go.Proofs.YtenhgjpoigkdgaaGreatDoor.Ln
