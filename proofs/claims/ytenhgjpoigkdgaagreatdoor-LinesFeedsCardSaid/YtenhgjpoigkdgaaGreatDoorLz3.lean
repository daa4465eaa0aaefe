/- Package lines' sized. Conditions: what start-up lays ('PCtx'); the variable MaxLen holds some int; bounds. -/
import Derived.Test.YtenhgjpoigkdgaaGreatDoorLz2
namespace Go.Proofs.YtenhgjpoigkdgaaGreatDoor.Ln
open Go.ChangeShapes Go.WideShapes Go.ChangeAt Go.RowKit

/-- Of whatever a names, the block lies below B. -/
def AddrB (B : Nat) (a : Option Addr) : Prop := ∀ ad, a = some ad → ad.block < B
theorem AddrB.add {B : Nat} {a : Option Addr} (h : AddrB B a) (p : Prop) [Decidable p] (k : Nat) : AddrB B (if p then a else a.map (·.add k)) := by
  intro ad e
  split at e
  · exact h ad e
  · cases a with
    | none => cases e
    | some a0 =>
      have := h a0 rfl
      simp only [Option.map_some, Option.some.injEq] at e
      subst e
      unfold Addr.add
      split <;> exact this
theorem InB.addr {w : World} {a : Option Addr} {c : Nat} {l : List UInt8} (h : InB w a c l) (hl : 0 < l.length) : AddrB w.heap.size a := by
  obtain ⟨g, o, rfl, hc⟩ := h.cell hl
  intro ad e
  injection e with e
  subst e
  exact World.block_lt_of_cell? w _ (hc 0 hl)
theorem InB.keep {w w' : World} {a : Option Addr} {c B : Nat} {l : List UInt8} (h : InB w a c l) (hA : AddrB B a) (hb : ∀ i, i < B → w'.heap[i]? = w.heap[i]?) : InB w' a c l := by
  refine ⟨h.cap, h.max, fun hl => ?_⟩
  obtain ⟨g, o, rfl, hc⟩ := h.cell hl
  exact ⟨g, o, rfl, fun i hi => (World.cell?_of_block (a := ⟨g, o + i, none⟩) (hb g (hA _ rfl))).trans (hc i hi)⟩
theorem InB.dropA {w : World} {a : Option Addr} {c : Nat} {l : List UInt8} (h : InB w a c l) (k : Nat) (hk : k ≤ l.length) :
    ∃ a2, (∀ B, AddrB B a → AddrB B a2) ∧ InB w a2 (c - k) (l.drop k) ∧ ∀ wx, (Instr.slice 22 (.slice a l.length c) (some (.int .i64 k)) none none).run Tryz.prog wx = .ok (.slice a2 (l.length - k) (c - k)) wx := by
  have hcap := h.cap
  have hmax := h.max
  have hel : Tryz.prog.underlying 22 = some (.slice (Tryz.prog.elem 22)) := by kernel_rfl
  have hsz : ∀ wx, (sizeOf (Tryz.prog.elem 22)).run Tryz.prog wx = .ok 1 wx := fun wx => by kernel_rfl
  have hrun : ∀ wx, (Instr.slice 22 (.slice a l.length c) (some (.int .i64 k)) none none).run Tryz.prog wx = .ok (sliced a k l.length c 1) wx := fun wx => by
    rw [run_slice_l wx _ a l.length c hel .i64 k (by omega) (by omega), hsz]
    rfl
  refine ⟨if c = k then a else a.map (·.add (k * 1)), fun B hA => hA.add _ _, ⟨by rw [List.length_drop]; omega, by omega, fun hl => ?_⟩, fun wx => by rw [hrun]; rfl⟩
  rw [List.length_drop] at hl
  obtain ⟨g, o, rfl, hc⟩ := h.cell (by omega)
  rw [if_neg (by omega)]
  refine ⟨g, o + k, by simp [Addr.add], fun i hi => ?_⟩
  rw [List.length_drop] at hi
  rw [Nat.add_assoc, hc (k + i) (by omega), List.getElem_drop]
theorem InB.mid {w : World} {a : Option Addr} {c : Nat} {l : List UInt8} (h : InB w a c l) (f n : Nat) (hk : f + n ≤ l.length) :
    ∃ a3, (∀ B, AddrB B a → AddrB B a3) ∧ InB w a3 (c - f) ((l.drop f).take n) ∧ ((l.drop f).take n).length = n ∧ ∀ wx, (Instr.slice 22 (.slice a l.length c) (some (.int .i64 (f : Int))) (some (.int .i64 ((f : Int) + n))) none).run Tryz.prog wx = .ok (.slice a3 n (c - f)) wx := by
  have hcap := h.cap
  have hel : Tryz.prog.underlying 22 = some (.slice (Tryz.prog.elem 22)) := by kernel_rfl
  have hsz : ∀ wx, (sizeOf (Tryz.prog.elem 22)).run Tryz.prog wx = .ok 1 wx := fun wx => by kernel_rfl
  obtain ⟨a2, h2, -⟩ := h.drop f (by omega)
  have hl : ((l.drop f).take n).length = n := by rw [List.length_take, List.length_drop]; omega
  refine ⟨if c = f then a else a.map (·.add (f * 1)), fun B hA => hA.add _ _, ?_, hl, fun wx => ?_⟩
  · refine ⟨by rw [hl]; omega, by have := h.max; omega, fun hp => ?_⟩
    rw [hl] at hp
    obtain ⟨g, o, rfl, hc⟩ := h.cell (by omega)
    rw [if_neg (by omega)]
    refine ⟨g, o + f, by simp [Addr.add], fun i hi => ?_⟩
    rw [hl] at hi
    rw [Nat.add_assoc, hc (f + i) (by omega), List.getElem_take, List.getElem_drop]
  · rw [run_slice_lh wx _ a l.length c hel .i64 .i64 (f : Int) ((f : Int) + n) (by omega) (by omega) (by omega), hsz]
    simp only [Result.andThen, sliced, Int.toNat_natCast]
    rw [show ((f : Int) + n).toNat = f + n by omega, show f + n - f = n by omega]
/-- What comes of a word of which the length is told. -/
def SizedAns (a : Option Addr) (o : Lw.R (List UInt8)) (w : World) (e : Ending) (w' : World) : Prop := Below w.heap.size w w' ∧
  ((o = .bad ∧ e = .returned (.tuple #[.slice none 0 0, .int .i64 0, .int .i64 61])) ∨ (o = .short ∧ e = .returned (.tuple #[.slice none 0 0, .int .i64 0, .int .i64 0])) ∨
    ∃ t u a2 c2, o = .got t u ∧ e = .returned (.tuple #[.slice a2 t.length c2, .int .i64 (u : Nat), .int .i64 0]) ∧ InB w' a2 c2 t ∧ ∀ B, AddrB B a → AddrB B a2)
theorem sized_nil : Lw.sizedR [] = .short := rfl
theorem sized_cons (c : UInt8) (r : List UInt8) : Lw.sizedR (c :: r) = if c = 36 then match Lw.numR 0 4096 r with
      | .bad => .bad
      | .short => .short
      | .got n u => Lw.endR (r.drop (u + n.toNat)) ((r.drop u).take n.toNat) (1 + u + n.toNat + 2)
    else .bad := rfl
theorem endR_by {α : Type} (l : List UInt8) (x : α) (u : Nat) : Lw.endR l x u = if begE l [13, 10] = 61 then .bad else if begB l [13, 10] = false then .short else .got x u := by
  have hb := begin_crlf l
  have h1 := congrArg Prod.fst hb
  have h2 := congrArg Prod.snd hb
  simp only at h1 h2
  rw [h1, h2]
  unfold Lw.endR
  match l with
  | [] => rfl
  | [c] =>
    by_cases hc : c = 13
    · subst hc; rfl
    · simp only [if_neg hc]
      rw [if_pos trivial]
      split
      · rename_i e; cases e
      · rename_i e; injection e with e _; exact absurd e hc
      · rename_i e; injection e with e _; exact absurd e hc
      · rfl
  | c :: d :: r =>
    by_cases hc : c = 13 ∧ d = 10
    · obtain ⟨rfl, rfl⟩ := hc
      rfl
    · simp only [if_neg hc]
      rw [if_pos trivial]
      split
      · rename_i e; cases e
      · rename_i e; injection e with e e2; cases e2
      · rename_i e; injection e with e e2; injection e2 with e2 _; exact absurd ⟨e, e2⟩ hc
      · rfl
theorem beg_facts (l F : List UInt8) : (begE l F = 0 ∨ begE l F = 61) ∧ (begE l F = 61 → begB l F = false) := by
  unfold begE begB
  split
  · exact ⟨.inl rfl, fun h => by cases h⟩
  · rename_i h
    exact ⟨.inr rfl, fun _ => decide_eq_false fun q => h q.2⟩
theorem beg_dollar (l : List UInt8) : (begE l [36], begB l [36]) = match l with
    | [] => (0, false)
    | c :: _ => if c = 36 then (0, true) else (61, false) := by
  match l with
  | [] => rfl
  | c :: r =>
    unfold begE begB
    have e : min (c :: r).length ([36] : List UInt8).length = 1 := by simp
    rw [e]
    by_cases h : c = 36
    · subst h; simp
    · rw [if_neg (by simpa using h), decide_eq_false (fun q => h (by simpa using q.2))]
      show (61, false) = if c = 36 then (0, true) else (61, false)
      rw [if_neg h]
set_option maxHeartbeats 8000000 in
set_option maxRecDepth 1000000 in
theorem sized_calls (l : List UInt8) (hm : l.length ≤ 1000000) (a : Option Addr) (c : Nat) (w : World) (hc : PCtx w) (hmx : MaxOk w) (hB : InB w a c l) :
    Calls Tryz.prog 40 #[.slice a l.length c] w (SizedAns a (Lw.sizedR l) w) := by
  have hbd := beg_dollar l
  have hb1 := congrArg Prod.fst hbd
  have hb2 := congrArg Prod.snd hbd
  simp only at hb1 hb2
  have hbeg := begins_calls l a c w hB ⟨#[36]⟩
  rw [show (⟨#[36]⟩ : ByteArray).data.toList = [36] from rfl, hb1, hb2] at hbeg
  clear hb1 hb2 hbd
  match l with
  | [] =>
    have HG := Lib.hid hbeg
    rw [sized_nil]
    clear hbeg hB
    go_enter Tryz.func40, Tryz.ntmps40
    go_wp2_with fail
    refine HG.out.mono ?_; rintro en w1 ⟨rfl, hb1⟩
    have Hb1 := Lib.hid hb1
    clear hb1
    go_wp2_with fail
    go_ret3
    exact ⟨Hb1.out, .inr (.inl ⟨rfl, rfl⟩)⟩
  | c0 :: r =>
    rw [sized_cons]
    by_cases h36 : c0 = 36
    case neg =>
      rw [if_neg h36]
      simp only [if_neg h36] at hbeg
      have HG := Lib.hid hbeg
      clear hbeg hB h36
      generalize (c0 :: r).length = n at *
      go_enter Tryz.func40, Tryz.ntmps40
      go_wp2_with fail
      refine HG.out.mono ?_; rintro en w1 ⟨rfl, hb1⟩
      have Hb1 := Lib.hid hb1
      clear hb1
      go_wp2_with fail
      go_ret3
      exact ⟨Hb1.out, .inl ⟨rfl, rfl⟩⟩
    rw [if_pos h36]
    simp only [if_pos h36] at hbeg
    have hdr : (c0 :: r).drop 1 = r := rfl
    obtain ⟨a2, hB2, hfrom0⟩ := hB.drop 1 (by simp)
    have hfrom : ∀ wx, (Instr.slice 22 (.slice a (c0 :: r).length c) (some (.int .i64 1)) none none).run Tryz.prog wx = .ok (.slice a2 ((c0 :: r).length - 1) (c - 1)) wx := hfrom0
    clear hfrom0
    rw [hdr] at hB2
    have hln : (c0 :: r).length = r.length + 1 := rfl
    have hmr : r.length ≤ 1000000 := by omega
    have hnum := fun w2 (h2 : Below w.heap.size w w2) => number_calls r hmr a2 (c - 1) w2 (hc.below h2) (hmx.below h2) (hB2.below h2) 0 4096
    rw [hln, show r.length + 1 - 1 = r.length by omega] at hfrom
    rw [hln] at hbeg ⊢
    have HG := Lib.hid hbeg
    clear hbeg h36 hdr
    cases hn : Lw.numR 0 4096 r with
    | bad =>
      rw [hn] at hnum
      have HN : Hid (∀ w2, Below w.heap.size w w2 → Calls _ _ _ w2 fun e w' => e = .returned (.tuple #[.int .i64 0, .int .i64 0, .int .i64 61]) ∧ Below w2.heap.size w2 w') := Lib.hid hnum
      clear hnum hn hB hB2 hc hmx
      go_enter Tryz.func40, Tryz.ntmps40
      go_wp2_with fail
      refine HG.out.mono ?_; rintro en w1 ⟨rfl, hb1⟩
      have Hb1 := Lib.hid hb1
      clear hb1
      go_wp2_with fail
      (with_reducible refine (HN.out _ Hb1.out).mono ?_); rintro en w2 ⟨rfl, hb2⟩
      have Hb2 := Lib.hid (bstep Hb1.out hb2)
      clear hb2
      go_wp2_with fail
      go_ret3
      exact ⟨Hb2.out, .inl ⟨rfl, rfl⟩⟩
    | short =>
      rw [hn] at hnum
      have HN : Hid (∀ w2, Below w.heap.size w w2 → Calls _ _ _ w2 fun e w' => e = .returned (.tuple #[.int .i64 0, .int .i64 0, .int .i64 0]) ∧ Below w2.heap.size w2 w') := Lib.hid hnum
      clear hnum hn hB hB2 hc hmx
      go_enter Tryz.func40, Tryz.ntmps40
      go_wp2_with fail
      refine HG.out.mono ?_; rintro en w1 ⟨rfl, hb1⟩
      have Hb1 := Lib.hid hb1
      clear hb1
      go_wp2_with fail
      (with_reducible refine (HN.out _ Hb1.out).mono ?_); rintro en w2 ⟨rfl, hb2⟩
      have Hb2 := Lib.hid (bstep Hb1.out hb2)
      clear hb2
      go_wp2_with fail
      go_ret3
      exact ⟨Hb2.out, .inr (.inl ⟨rfl, rfl⟩)⟩
    | got n u =>
      rw [hn] at hnum
      obtain ⟨g1, g2, g3, g4, g5⟩ := Lw.numR_got hn
      obtain ⟨N, rfl⟩ : ∃ N : Nat, n = N := ⟨n.toNat, by omega⟩
      have HN : Hid (∀ w2, Below w.heap.size w w2 → Calls _ _ _ w2 fun e w' => e = .returned (.tuple #[.int .i64 N, .int .i64 u, .int .i64 0]) ∧ Below w2.heap.size w2 w') := Lib.hid hnum
      show Calls _ _ _ _ (SizedAns a (Lw.endR (r.drop (u + N)) ((r.drop u).take N) (1 + u + N + 2)) w)
      have hu0 : ((u : Int) == 0) = false := by rw [beq_eq_false_iff_ne]; omega
      by_cases hlt : r.length + 1 < 1 + u + N
      · have hr : Lw.endR (r.drop (u + N)) ((r.drop u).take N) (1 + u + N + 2) = .short := by
          rw [List.drop_eq_nil_of_le (by omega)]; rfl
        rw [hr]
        have hlt2 : (r.length : Int) + 1 < 1 + (u : Int) + (N : Int) := by omega
        clear hnum hn hB hB2 hc hmx hr
        go_enter Tryz.func40, Tryz.ntmps40
        go_wp2_with fail
        refine HG.out.mono ?_; rintro en w1 ⟨rfl, hb1⟩
        have Hb1 := Lib.hid hb1
        clear hb1
        go_wp2_with fail
        (with_reducible refine (HN.out _ Hb1.out).mono ?_); rintro en w2 ⟨rfl, hb2⟩
        have Hb2 := Lib.hid (bstep Hb1.out hb2)
        clear hb2
        go_wp2_with fail
        go_ret3
        exact ⟨Hb2.out, .inr (.inl ⟨rfl, rfl⟩)⟩
      · have hle : 1 + u + N ≤ r.length + 1 := by omega
        have hle2 : ¬ ((r.length : Int) + 1 < 1 + (u : Int) + (N : Int)) := by omega
        rw [endR_by]
        have hmidl : (c0 :: r).length = r.length + 1 := rfl
        obtain ⟨a3, hA3, hB3, hl3, hmid⟩ := hB.mid (1 + u) N (by rw [hmidl]; omega)
        obtain ⟨a4, hB4, hto⟩ := hB.drop (1 + u + N) (by rw [hmidl]; omega)
        have d1 : (c0 :: r).drop (1 + u) = r.drop u := by rw [Nat.add_comm 1 u]; rfl
        have d2 : (c0 :: r).drop (1 + u + N) = r.drop (u + N) := by rw [show 1 + u + N = (u + N) + 1 by omega]; rfl
        rw [d1] at hB3 hl3
        rw [d2] at hB4
        have e1 : ((1 + u : Nat) : Int) = 1 + (u : Int) := by omega
        have e2 : ((1 + u + N : Nat) : Int) = 1 + (u : Int) + (N : Int) := by omega
        rw [e1, hmidl] at hmid
        rw [e2, hmidl] at hto
        have hbeg2 := fun w2 (h2 : Below w.heap.size w w2) => begins_calls (r.drop (u + N)) a4 (c - (1 + u + N)) w2 (hB4.below h2) ⟨#[13, 10]⟩
        have hdl : (r.drop (u + N)).length = r.length + 1 - (1 + u + N) := by rw [List.length_drop]; omega
        obtain ⟨f1, f2⟩ := beg_facts (r.drop (u + N)) [13, 10]
        rw [show (⟨#[13, 10]⟩ : ByteArray).data.toList = [13, 10] from rfl, hdl] at hbeg2
        generalize r.length + 1 - (1 + u + N) = d at hbeg2 hto
        generalize c - (1 + u + N) = c4 at hbeg2 hto
        generalize c - (1 + u) = c3 at hmid hB3
        generalize begE (r.drop (u + N)) [13, 10] = be at *
        generalize begB (r.drop (u + N)) [13, 10] = bb at *
        generalize (r.drop u).take N = T at *
        have HG2 := Lib.hid hbeg2
        have HB3 := Lib.hid (fun w2 (h2 : Below w.heap.size w w2) => hB3.below h2)
        have HL3 := Lib.hid hl3
        have HA3 := Lib.hid hA3
        clear hbeg2 hnum hn hB hB2 hB3 hB4 hc hmx hmidl d1 d2 e1 e2 hdl hl3 hlt hA3
        rcases f1 with rfl | rfl
        · cases bb with
          | false =>
            rw [if_neg (by decide), if_pos rfl]
            go_enter Tryz.func40, Tryz.ntmps40
            go_wp2_with fail
            refine HG.out.mono ?_; rintro en w1 ⟨rfl, hb1⟩
            have Hb1 := Lib.hid hb1
            clear hb1
            go_wp2_with fail
            (with_reducible refine (HN.out _ Hb1.out).mono ?_); rintro en w2 ⟨rfl, hb2⟩
            have Hb2 := Lib.hid (bstep Hb1.out hb2)
            clear hb2
            go_wp2_with fail
            (with_reducible refine (HG2.out _ Hb2.out).mono ?_); rintro en w3 ⟨rfl, hb3⟩
            have Hb3 := Lib.hid (bstep Hb2.out hb3)
            clear hb3
            go_wp2_with fail
            go_ret3
            exact ⟨Hb3.out, .inr (.inl ⟨rfl, rfl⟩)⟩
          | true =>
            rw [if_neg (by decide), if_neg (by decide)]
            go_enter Tryz.func40, Tryz.ntmps40
            go_wp2_with fail
            refine HG.out.mono ?_; rintro en w1 ⟨rfl, hb1⟩
            have Hb1 := Lib.hid hb1
            clear hb1
            go_wp2_with fail
            (with_reducible refine (HN.out _ Hb1.out).mono ?_); rintro en w2 ⟨rfl, hb2⟩
            have Hb2 := Lib.hid (bstep Hb1.out hb2)
            clear hb2
            go_wp2_with fail
            (with_reducible refine (HG2.out _ Hb2.out).mono ?_); rintro en w3 ⟨rfl, hb3⟩
            have Hb3 := Lib.hid (bstep Hb2.out hb3)
            clear hb3
            go_wp2_with fail
            go_ret3
            refine ⟨Hb3.out, .inr (.inr ⟨T, 1 + u + N + 2, a3, c3, rfl, ?_, HB3.out _ Hb3.out, HA3.out⟩)⟩
            rw [HL3.out, show ((1 + u + N + 2 : Nat) : Int) = 1 + (u : Int) + (N : Int) + 2 by omega]
            rfl
        · obtain rfl := f2 rfl
          rw [if_pos rfl]
          go_enter Tryz.func40, Tryz.ntmps40
          go_wp2_with fail
          refine HG.out.mono ?_; rintro en w1 ⟨rfl, hb1⟩
          have Hb1 := Lib.hid hb1
          clear hb1
          go_wp2_with fail
          (with_reducible refine (HN.out _ Hb1.out).mono ?_); rintro en w2 ⟨rfl, hb2⟩
          have Hb2 := Lib.hid (bstep Hb1.out hb2)
          clear hb2
          go_wp2_with fail
          (with_reducible refine (HG2.out _ Hb2.out).mono ?_); rintro en w3 ⟨rfl, hb3⟩
          have Hb3 := Lib.hid (bstep Hb2.out hb3)
          clear hb3
          go_wp2_with fail
          go_ret3
          exact ⟨Hb3.out, .inl ⟨rfl, rfl⟩⟩
end Go.Proofs.YtenhgjpoigkdgaaGreatDoor.Ln
