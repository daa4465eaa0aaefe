/- Package lines' typed and Parse: the command with which any bytes begin. Conditions: what start-up lays ('PCtx'); the variable MaxLen holds some int; bounds. -/
import Derived.Test.YtenhgjpoigkdgaaGreatDoorLz4
import Derived.Test.YtenhgjpoigkdgaaGreatDoorLx8
import Derived.Shelf.Bytes.SlIndexAt
import Derived.Shelf.Bytes.SlSmallAll
import Derived.Lib.SlBytesConst
namespace Go.Proofs.YtenhgjpoigkdgaaGreatDoor.Ln
open Go.ChangeShapes Go.WideShapes Go.ChangeAt Go.RowKit

/-- The bytes as numbers. -/
def numsOf (l : List UInt8) : List Int := l.map fun b => (b.toNat : Int)
theorem numsOf_len (l : List UInt8) : (numsOf l).length = l.length := by simp [numsOf]
theorem bytesOf_nums (l : List UInt8) : Lib.bytesOf (numsOf l) = l := by
  unfold Lib.bytesOf numsOf
  rw [List.map_map]
  conv => rhs; rw [← List.map_id l]
  congr 1
  funext b
  simp
theorem InB.nums {w : World} {a : Option Addr} {c : Nat} {l : List UInt8} (h : InB w a c l) : Lib.BytesIn w a l.length (numsOf l) := fun hl => by
  obtain ⟨g, o, e, hc⟩ := h.cell hl
  refine ⟨g, o, e, fun i hi => ?_⟩
  rw [hc i hi]
  simp [numsOf, List.getD, hi]
def idxL (l : List UInt8) : Int := if Lw.ahead Lw.isLF l < l.length then (Lw.ahead Lw.isLF l : Int) else -1
theorem idx_lf (l : List UInt8) : Lib.indexByte l 10 = idxL l := by
  induction l with
  | nil => rfl
  | cons b l ih =>
    have hle := Lw.ahead_le Lw.isLF l
    have hcons : Lw.ahead Lw.isLF (b :: l) = if Lw.isLF b = true then 0 else Lw.ahead Lw.isLF l + 1 := by
      unfold Lw.ahead
      rw [List.takeWhile_cons]
      cases Lw.isLF b <;> simp
    rw [Lib.indexByte, ih]
    unfold idxL
    rw [hcons, List.length_cons]
    have hb0 : (b == 10) = Lw.isLF b := rfl
    rw [hb0]
    generalize Lw.ahead Lw.isLF l = A at *
    by_cases hb : Lw.isLF b = true
    · rw [if_pos hb, if_pos hb, if_pos (by omega)]
      rfl
    · rw [if_neg hb, if_neg hb]
      by_cases h : A < l.length
      · rw [if_pos h, if_neg (by rw [beq_iff_eq]; omega), if_pos (by omega)]
        rfl
      · rw [if_neg h, if_neg (show ¬ A + 1 < l.length + 1 by omega)]
        rfl
theorem byteIdx_calls (l : List UInt8) (a : Option Addr) (c : Nat) (w : World) (hB : InB w a c l) (h0 : a = none → c = 0) : Calls Tryz.prog 42 #[.slice a l.length c, .int .u8 10] w fun e w' => e = .returned (.int .i64 (idxL l)) ∧ w = w' := by
  cases a with
  | none =>
    obtain rfl : c = 0 := h0 rfl
    obtain rfl : l = [] := by
      cases l with
      | nil => rfl
      | cons b l => obtain ⟨g, o, e, -⟩ := hB.cell (by simp); cases e
    exact (Any.bytes_IndexByte_nil Tryz.lays187 10 w).mono fun _ _ h => ⟨h.1, h.2.symm⟩
  | some ad =>
    refine (Any.bytes_IndexByte_at Tryz.lays187 ad l.length c (numsOf l) 10 w (numsOf_len l) fun i hi => ?_).mono fun e w' h => ⟨?_, h.2.symm⟩
    · obtain ⟨g, o, e, hc⟩ := hB.cell (by omega)
      injection e with e
      subst e
      rw [Addr.add_lit, hc i hi]
      simp [numsOf, List.getD, hi]
    · rw [h.1, bytesOf_nums]
      show Ending.returned (Value.int .i64 (Lib.indexByte l 10)) = _
      rw [idx_lf]
theorem strip_take (l : List UInt8) : Lw.stripCR l = l.take (Lw.stripCR l).length := by
  unfold Lw.stripCR
  split
  · rw [List.dropLast_eq_take, List.length_take]
    congr 1
    omega
  · rw [List.take_length]
theorem strip_le (l : List UInt8) : (Lw.stripCR l).length ≤ l.length := by
  rw [strip_take, List.length_take]
  omega
theorem suffix_cr (l : List UInt8) : Lib.hasSuffix l [13] = decide (l.getLast? = some 13) := by
  unfold Lib.hasSuffix
  rw [Bool.eq_iff_iff, decide_eq_true_eq]
  simp only [List.isSuffixOf_iff_suffix]
  constructor
  · rintro ⟨t, rfl⟩
    simp
  · intro h
    obtain ⟨t, rfl⟩ := List.getLast?_eq_some_iff.1 h
    exact ⟨t, rfl⟩
theorem trimV (l : List UInt8) (a : Option Addr) (c : Nat) {w : World} (hB : InB w a c l) : Lib.trimSuffixV a l.length c (numsOf l) [13] = .slice a (Lw.stripCR l).length c := by
  by_cases hl : 0 < l.length
  · obtain ⟨g, o, rfl, -⟩ := hB.cell hl
    show Lib.bytesTrimSuffix g o l.length c (numsOf l) [13] = _
    unfold Lib.bytesTrimSuffix
    rw [bytesOf_nums, show Lib.bytesOf [13] = [13] from rfl, suffix_cr]
    unfold Lw.stripCR
    by_cases h : l.getLast? = some 13
    · rw [decide_eq_true h, if_pos rfl, if_pos h, List.length_dropLast]
      rfl
    · rw [decide_eq_false h, if_neg (by decide), if_neg h]
  · obtain rfl : l = [] := List.eq_nil_of_length_eq_zero (by omega)
    unfold Lib.trimSuffixV
    split
    · rfl
    · rfl
theorem trim_calls (l : List UInt8) (a : Option Addr) (c : Nat) (w : World) (hB : InB w a c l) : Calls Tryz.prog 44 #[.slice a l.length c, .slice (some ⟨w.heap.size, 0, none⟩) 1 1] (w.alloc (.cells #[.int .u8 13] 5 (1, 2))) fun e w' => e = .returned (.slice a (Lw.stripCR l).length c) ∧ w.alloc (.cells #[.int .u8 13] 5 (1, 2)) = w' := by
  have hB2 := hB.below (bbox (.cells #[.int .u8 13] 5 (1, 2)))
  refine (Any.bytes_TrimSuffix_all Tryz.laysnb140 a (some ⟨w.heap.size, 0, none⟩) l.length c 1 1 (numsOf l) [13] _ (numsOf_len l) rfl hB.cap (by have := hB.cap; have := hB.max; omega) hB2.nums ?_).mono fun e w' h => ⟨?_, h.2.symm⟩
  · intro _
    refine ⟨w.heap.size, 0, rfl, fun i hi => ?_⟩
    obtain rfl : i = 0 := by omega
    rw [World.cell?_alloc_mark]
    rfl
  · rw [h.1, trimV l a c hB]
/-- typedR, by where the line ends. -/
theorem typedR_by (l : List UInt8) (K : Nat) (hK : Lw.ahead Lw.isLF (l.take 4200) = K) : Lw.typedR l = if K < (l.take 4200).length then (match Lw.wrun (.gap []) (Lw.stripCR ((l.take 4200).take K)) with
    | none => .bad
    | some ws => .got ws (K + 1)) else if (l.take 4200).length = 4200 then .bad else .short := by
  have hlen : ((l.take 4200).length = 4200) = (4200 ≤ l.length) := by rw [List.length_take]; simp; omega
  have hle : K ≤ (l.take 4200).length := by rw [← hK]; exact Lw.ahead_le _ _
  simp only [hlen]
  unfold Lw.typedR
  rw [hK]
  by_cases h : K < (l.take 4200).length
  · rw [if_pos h, List.drop_eq_getElem_cons h]
    rfl
  · rw [if_neg h, List.drop_eq_nil_of_le (by omega)]
set_option maxHeartbeats 8000000 in
set_option maxRecDepth 1000000 in
theorem typed_calls (l : List UInt8) (hm : l.length ≤ 1000000) (a : Option Addr) (c : Nat) (h0 : a = none → c = 0) (w : World) (hc : PCtx w) (hB : InB w a c l) :
    Calls Tryz.prog 26 #[.slice a l.length c] w (ParseAns (Lw.typedR l) w) := by
  obtain ⟨K, hK⟩ : ∃ K, Lw.ahead Lw.isLF (l.take 4200) = K := ⟨_, rfl⟩
  rw [typedR_by l K hK]
  have hR : (min (l.length : Int) 4200) = ((l.take 4200).length : Int) := by rw [List.length_take]; omega
  have hto := hB.to (l.take 4200).length (by rw [List.length_take]; omega)
  rw [← hR] at hto
  have hBL := hB.take 4200
  have hL1 : (l.take 4200).length ≤ 4200 := by rw [List.length_take]; omega
  clear hR hB hm
  generalize l.take 4200 = L at *
  have hKL : K ≤ L.length := by rw [← hK]; exact Lw.ahead_le _ _
  have hidx : idxL L = if K < L.length then (K : Int) else -1 := by unfold idxL; rw [hK]
  have hi := byteIdx_calls L a c w hBL h0
  rw [hidx] at hi
  have hto2 := hBL.to K hKL
  by_cases hlt : K < L.length
  · rw [if_pos hlt] at hi ⊢
    have HI := Lib.hid hi
    have hBK := hBL.take K
    have hlK : (L.take K).length = K := by rw [List.length_take]; omega
    generalize L.take K = T at *
    have htr := fun w2 (h2 : Below w.heap.size w w2) => trim_calls T a c w2 (hBK.below h2)
    rw [hlK] at htr
    have hsl := strip_le T
    have hBS := hBK.take (Lw.stripCR T).length
    rw [← strip_take] at hBS
    generalize Lw.stripCR T = X at *
    have hcv : ∀ w2, Below w.heap.size w w2 → (convert 22 9 (.slice a X.length c)).run Tryz.prog w2 = .ok (.string ⟨X.toArray⟩) w2 := fun w2 h2 => (hBS.below h2).conv
    have hwd := fun w2 (h2 : Below w.heap.size w w2) => words_calls ⟨X.toArray⟩ (by rw [size_of]; omega) w2 (hc.below h2).toLCtx
    rw [bytes_of] at hwd
    have HT := Lib.hid htr
    have HCV := Lib.hid (hcv _ (bbox (.cells #[.int .u8 13] 5 (1, 2))))
    have HW := Lib.hid (hwd _ (bbox (.cells #[.int .u8 13] 5 (1, 2))))
    have hbx := bbox (w := w) (.cells #[.int .u8 13] 5 (1, 2))
    have Hbx := Lib.hid hbx
    clear hi htr hcv hwd hBS hBK hBL hc hidx hK h0 hbx
    have kc := fun (w : World) (C : Array Value) (n c : Nat) => Lib.run_convert_bytes_const (P := Tryz.prog) w 22 5 C n c Tryz.underlying22 Tryz.underlying5
    clear hlK
    cases ho : Lw.wrun (.gap []) X with
    | none =>
      rw [ho] at HW
      clear ho
      go_enter Tryz.func26, Tryz.ntmps26
      go_wp2_with fail
      refine HI.out.mono ?_; rintro en w1 ⟨rfl, rfl⟩
      go_wp2_with fail
      (with_reducible refine (HT.out _ (Below.refl _ _)).mono ?_); rintro en w1 ⟨rfl, rfl⟩
      have hcv2 := HCV.out
      go_wp2_with fail
      (with_reducible refine HW.out.mono ?_); rintro en w2 ⟨hb2, hans⟩
      have Hb2 := Lib.hid (bstep Hbx.out hb2)
      clear hb2 hcv2
      rcases hans with ⟨-, rfl⟩ | ⟨ws, v, h, -⟩
      · go_wp2_with fail
        go_ret3
        exact ⟨Hb2.out, .inl ⟨rfl, rfl⟩⟩
      · cases h
    | some ws =>
      rw [ho] at HW
      clear ho
      go_enter Tryz.func26, Tryz.ntmps26
      go_wp2_with fail
      refine HI.out.mono ?_; rintro en w1 ⟨rfl, rfl⟩
      go_wp2_with fail
      (with_reducible refine (HT.out _ (Below.refl _ _)).mono ?_); rintro en w1 ⟨rfl, rfl⟩
      have hcv2 := HCV.out
      go_wp2_with fail
      (with_reducible refine HW.out.mono ?_); rintro en w2 ⟨hb2, hans⟩
      have Hb2 := Lib.hid (bstep Hbx.out hb2)
      clear hb2 hcv2
      rcases hans with ⟨h, -⟩ | ⟨ws2, v, h, rfl, hS⟩
      · cases h
      · injection h with h
        subst h
        have HS := Lib.hid (hS.rebase Hbx.out)
        clear hS
        go_wp2_with fail
        go_ret3
        exact ⟨Hb2.out, .inr (.inr ⟨ws, K + 1, v, rfl, by rw [show ((K + 1 : Nat) : Int) = (K : Int) + 1 by omega]; rfl, HS.out⟩)⟩
  · rw [if_neg hlt] at hi ⊢
    have HI := Lib.hid hi
    have HT := Lib.hid (fun w2 => tooLong_calls L.length c a w2)
    clear hi hBL hc hidx hK h0
    by_cases h42 : L.length = 4200
    · have HT2 : Hid (∀ w2, Calls Tryz.prog 43 #[.slice a L.length c] w2 fun e w' => e = .returned (.int .i64 61) ∧ w2 = w') := Lib.hid fun w2 => by have h := HT.out w2; rw [if_pos h42] at h; exact h
      rw [if_pos h42]
      clear h42 HT hlt
      go_enter Tryz.func26, Tryz.ntmps26
      go_wp2_with fail
      refine HI.out.mono ?_; rintro en w1 ⟨rfl, rfl⟩
      go_wp2_with fail
      (with_reducible refine (HT2.out _).mono ?_); rintro en w3 ⟨rfl, rfl⟩
      go_wp2_with fail
      go_ret3
      exact ⟨Below.refl _ _, .inl ⟨rfl, rfl⟩⟩
    · have HT2 : Hid (∀ w2, Calls Tryz.prog 43 #[.slice a L.length c] w2 fun e w' => e = .returned (.int .i64 0) ∧ w2 = w') := Lib.hid fun w2 => by have h := HT.out w2; rw [if_neg h42] at h; exact h
      rw [if_neg h42]
      clear h42 HT hlt
      go_enter Tryz.func26, Tryz.ntmps26
      go_wp2_with fail
      refine HI.out.mono ?_; rintro en w1 ⟨rfl, rfl⟩
      go_wp2_with fail
      (with_reducible refine (HT2.out _).mono ?_); rintro en w3 ⟨rfl, rfl⟩
      go_wp2_with fail
      go_ret3
      exact ⟨Below.refl _ _, .inr (.inl ⟨rfl, rfl⟩)⟩
set_option maxHeartbeats 4000000 in
set_option maxRecDepth 1000000 in
theorem parse_calls (l : List UInt8) (hm : l.length ≤ 1000000) (a : Option Addr) (c : Nat) (h0 : a = none → c = 0) (w : World) (hc : PCtx w) (hmx : MaxOk w) (hB : InB w a c l) :
    Calls Tryz.prog 16 #[.slice a l.length c] w (ParseAns (Lw.parseR l) w) := by
  by_cases hl : l = []
  · subst hl
    have HT : Hid (Calls Tryz.prog 26 #[.slice a 0 c] w (ParseAns (Lw.parseR []) w)) := Lib.hid (typed_calls [] hm a c h0 w hc hB)
    show Calls Tryz.prog 16 #[.slice a 0 c] w _
    generalize Lw.parseR [] = o at *
    clear hB hc hmx
    go_enter Tryz.func16, Tryz.ntmps16
    go_wp2_with fail
    (with_reducible refine HT.out.mono ?_); rintro en w2 ⟨hb, hans⟩
    have Hb := Lib.hid hb
    clear hb
    rcases hans with ⟨rfl, rfl⟩ | ⟨rfl, rfl⟩ | ⟨ws, u, v, rfl, rfl, hS⟩
    · go_wp2_with fail
      go_ret3
      exact ⟨Hb.out, .inl ⟨rfl, rfl⟩⟩
    · go_wp2_with fail
      go_ret3
      exact ⟨Hb.out, .inr (.inl ⟨rfl, rfl⟩)⟩
    · have HS := Lib.hid hS
      clear hS
      go_wp2_with fail
      go_ret3
      exact ⟨Hb.out, .inr (.inr ⟨ws, u, v, rfl, rfl, HS.out⟩)⟩
  · obtain ⟨c0, r, hcr⟩ : ∃ c0 r, l = c0 :: r := by cases l with | nil => exact absurd rfl hl | cons c0 r => exact ⟨c0, r, rfl⟩
    have hl0 : 0 < l.length := by rw [hcr]; simp
    obtain ⟨g, o, rfl, hcell⟩ := hB.cell hl0
    have hx := hcell 0 hl0
    have hl00 : l[0] = c0 := by subst hcr; rfl
    rw [hl00, Nat.add_zero] at hx
    have hpr : Lw.parseR l = if c0 = 42 then Lw.countedR l else Lw.typedR l := by
      subst hcr
      unfold Lw.parseR
      by_cases h : c0 = 42
      · rw [if_pos h, if_pos (by rw [h]; rfl)]
      · rw [if_neg h, if_neg (by simpa using h)]
    have HCt := Lib.hid (counted_calls l hl hm (some ⟨g, o, none⟩) c w hc hmx hB)
    have HTt := Lib.hid (typed_calls l hm (some ⟨g, o, none⟩) c h0 w hc hB)
    clear hcell hcr hl00 hB hc hmx h0 hl
    by_cases h42 : c0 = 42
    · rw [hpr, if_pos h42]
      have hb : ((c0.toNat : Int) == 42) = true := by rw [h42]; rfl
      generalize Lw.countedR l = q at *
      clear hpr h42 HTt
      go_enter Tryz.func16, Tryz.ntmps16
      go_wp2_with fail
      (with_reducible refine HCt.out.mono ?_); rintro en w2 ⟨hb, hans⟩
      have Hb := Lib.hid hb
      clear hb
      rcases hans with ⟨rfl, rfl⟩ | ⟨rfl, rfl⟩ | ⟨ws, u, v, rfl, rfl, hS⟩
      · go_wp2_with fail
        go_ret3
        exact ⟨Hb.out, .inl ⟨rfl, rfl⟩⟩
      · go_wp2_with fail
        go_ret3
        exact ⟨Hb.out, .inr (.inl ⟨rfl, rfl⟩)⟩
      · have HS := Lib.hid hS
        clear hS
        go_wp2_with fail
        go_ret3
        exact ⟨Hb.out, .inr (.inr ⟨ws, u, v, rfl, rfl, HS.out⟩)⟩
    · rw [hpr, if_neg h42]
      have hb : ((c0.toNat : Int) == 42) = false := by
        rw [beq_eq_false_iff_ne]
        intro e
        exact h42 (UInt8.toNat_inj.1 (by show _ = 42; omega))
      generalize Lw.typedR l = q at *
      clear hpr h42 HCt
      go_enter Tryz.func16, Tryz.ntmps16
      go_wp2_with fail
      (with_reducible refine HTt.out.mono ?_); rintro en w2 ⟨hb, hans⟩
      have Hb := Lib.hid hb
      clear hb
      rcases hans with ⟨rfl, rfl⟩ | ⟨rfl, rfl⟩ | ⟨ws, u, v, rfl, rfl, hS⟩
      · go_wp2_with fail
        go_ret3
        exact ⟨Hb.out, .inl ⟨rfl, rfl⟩⟩
      · go_wp2_with fail
        go_ret3
        exact ⟨Hb.out, .inr (.inl ⟨rfl, rfl⟩)⟩
      · have HS := Lib.hid hS
        clear hS
        go_wp2_with fail
        go_ret3
        exact ⟨Hb.out, .inr (.inr ⟨ws, u, v, rfl, rfl, HS.out⟩)⟩
end Go.Proofs.YtenhgjpoigkdgaaGreatDoor.Ln
