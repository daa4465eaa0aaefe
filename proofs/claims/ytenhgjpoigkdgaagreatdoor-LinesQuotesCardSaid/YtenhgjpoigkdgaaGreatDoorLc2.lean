/- Plain facts, of no program: a command's bytes are read as its words. No condition. -/
import Derived.Test.YtenhgjpoigkdgaaGreatDoorLc1
import Derived.Test.YtenhgjpoigkdgaaGreatDoorLz3
namespace Go.Proofs.YtenhgjpoigkdgaaGreatDoor.Ln
open Go.Proofs.YtenhgjpoigkdgaaGreatDoor.Lw
theorem digits_all (u : Nat) : ∀ c ∈ Lib.decDigits u, Lw.crlf c = false := by
  have key : ∀ (l : List UInt8) (acc v : Nat), Num.dv acc l = some v → ∀ c ∈ l, Lw.crlf c = false := by
    intro l
    induction l with
    | nil => intro acc v _ c h; cases h
    | cons d l ih =>
      intro acc v h c hc
      unfold Num.dv at h
      split at h
      · rename_i hd
        rcases List.mem_cons.1 hc with rfl | hc
        · unfold Lw.crlf
          have h13 : c ≠ 13 := by rintro rfl; revert hd; decide
          have h10 : c ≠ 10 := by rintro rfl; revert hd; decide
          simp [h13, h10]
        · exact ih _ _ h c hc
      · cases h
  exact key _ 0 u (Num.dv_decDigits u)
theorem itoa_nat (n : Nat) : Lib.itoa (n : Int) = Lib.decDigits n := by
  unfold Lib.itoa
  rw [if_neg (by omega)]
  simp
theorem ahead_app2 {p : UInt8 → Bool} (l : List UInt8) (h : ∀ c ∈ l, p c = false) (c : UInt8) (hc : p c = true) (r : List UInt8) : Lw.ahead p (l ++ c :: r) = l.length := by
  induction l with
  | nil => unfold Lw.ahead; rw [List.nil_append, List.takeWhile_cons, if_neg (by simp [hc])]
  | cons d l ih =>
    have hd := h d (List.mem_cons_self ..)
    have := ih fun c hc => h c (List.mem_cons_of_mem _ hc)
    unfold Lw.ahead at this ⊢
    rw [List.cons_append, List.takeWhile_cons, if_pos (by simp [hd]), List.length_cons, this, List.length_cons]
theorem numR_itoa (least most : Int) (n : Nat) (h1 : least ≤ n) (h2 : (n : Int) ≤ most) (hn : n ≤ 1000000) (r : List UInt8) : Lw.numR least most (Lib.itoa (n : Int) ++ 13 :: 10 :: r) = .got n ((Lib.itoa (n : Int)).length + 2) := by
  have hl := itoa_len (n : Int) (by omega) (by omega)
  have ht : (Lib.itoa (n : Int) ++ 13 :: 10 :: r).take 4200 = Lib.itoa (n : Int) ++ 13 :: 10 :: r.take (4200 - (Lib.itoa (n : Int)).length - 2) := by
    rw [List.take_append, List.take_of_length_le (by omega)]
    congr 1
    obtain ⟨k, hk⟩ : ∃ k, 4200 - (Lib.itoa (n : Int)).length = k + 2 := ⟨4198 - (Lib.itoa (n : Int)).length, by omega⟩
    rw [hk]
    rfl
  have hd : ∀ c ∈ Lib.itoa (n : Int), Lw.crlf c = false := by rw [itoa_nat]; exact digits_all n
  have hw := Num.wp_itoa (n : Int) (by omega) (by omega)
  unfold Lw.numR
  rw [ht, ahead_app2 _ hd 13 (by rfl), List.drop_left, List.take_left, hw]
  simp only
  rw [if_pos ⟨trivial, h1, h2⟩]
theorem sizedR_bulk (t : List UInt8) (ht : t.length ≤ 4096) (r : List UInt8) : Lw.sizedR (bulkL t ++ r) = .got t (bulkL t).length := by
  have e : bulkL t ++ r = 36 :: (Lib.itoa (t.length : Int) ++ 13 :: 10 :: (t ++ 13 :: 10 :: r)) := by simp [bulkL]
  have hlen : (bulkL t).length = 1 + ((Lib.itoa (t.length : Int)).length + 2) + t.length + 2 := by simp [bulkL]; omega
  rw [e, sized_cons, if_pos rfl, numR_itoa 0 4096 t.length (by omega) (by omega) (by omega)]
  simp only [Int.toNat_natCast]
  rw [hlen]
  have ed : (Lib.itoa (t.length : Int) ++ 13 :: 10 :: (t ++ 13 :: 10 :: r)).drop ((Lib.itoa (t.length : Int)).length + 2) = t ++ 13 :: 10 :: r := by
    rw [← List.drop_drop, List.drop_left]; rfl
  rw [← List.drop_drop, ed, List.drop_left, List.take_left]
  rfl
theorem loopR_cmd (l : List UInt8) : ∀ (ws acc : List (List UInt8)) (at' : Nat) (r : List UInt8), (∀ t ∈ ws, t.length ≤ 4096) → l.drop at' = ws.flatMap bulkL ++ r → Lw.loopR ws.length at' acc l = .got (acc ++ ws) (at' + (ws.flatMap bulkL).length) := by
  intro ws
  induction ws with
  | nil => intro acc at' r _ _; simp [Lw.loopR]
  | cons t ws ih =>
    intro acc at' r h hd
    rw [List.length_cons, Lw.loopR_succ, hd, List.flatMap_cons, List.append_assoc, sizedR_bulk t (h t (List.mem_cons_self ..))]
    simp only
    rw [ih (acc ++ [t]) (at' + (bulkL t).length) r (fun t ht => h t (List.mem_cons_of_mem _ ht)) ?_]
    · rw [List.length_append, List.append_assoc, Nat.add_assoc]; rfl
    · rw [← List.drop_drop, hd, List.flatMap_cons, List.append_assoc, List.drop_left]
theorem parse_cmd (ws : List (List UInt8)) (hl : ws.length ≤ 64) (hw : ∀ t ∈ ws, t.length ≤ 4096) : Lw.parseR (cmdL ws) = .got ws (cmdL ws).length := by
  have e : cmdL ws = 42 :: (Lib.itoa (ws.length : Int) ++ 13 :: 10 :: ws.flatMap bulkL) := by simp [cmdL]
  have hlen : (cmdL ws).length = 1 + ((Lib.itoa (ws.length : Int)).length + 2) + (ws.flatMap bulkL).length := by rw [e]; simp; omega
  unfold Lw.parseR
  rw [if_pos (by rw [e]; rfl)]
  unfold Lw.countedR
  rw [show (cmdL ws).tail = Lib.itoa (ws.length : Int) ++ 13 :: 10 :: ws.flatMap bulkL by rw [e]; rfl, numR_itoa (-1) 64 ws.length (by omega) (by omega) (by omega)]
  simp only [Int.toNat_natCast]
  rw [loopR_cmd (cmdL ws) ws [] (1 + ((Lib.itoa (ws.length : Int)).length + 2)) [] hw ?_, hlen]
  · rfl
  · rw [e, Nat.add_comm 1, List.drop_succ_cons, List.append_nil, ← List.drop_drop, List.drop_left]
    rfl
end Go.Proofs.YtenhgjpoigkdgaaGreatDoor.Ln
