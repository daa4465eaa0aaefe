/- The library's calls of package lines' first and Words, by the shelf; strings.IndexAny of a space and a tab at EVERY text (written by tools/gen_lx4.py). No condition but the text's bound. -/
import Derived.Test.YtimgkbpiengnjaaGreatDoorLb1
import Derived.Test.YtimgkbpiengnjaaGreatDoorLays
import Derived.Laws.RangeAny
import Derived.Laws.Runes
import Derived.Lib.IndexAny
import Derived.Deep.QuietTactic
import Derived.BigQuiet
import Derived.Shelf.Strings.SlTrimAscii
import Derived.Shelf.Strings.IndexAnyAll
import Derived.Shelf.Strings.Search3
namespace Go.Proofs.YtimgkbpiengnjaaGreatDoor.Ln
open Go.ChangeShapes Go.WideShapes Go.ChangeAt Go.RowKit

theorem gap_high {c : UInt8} (h : 128 ≤ c.toNat) : Lw.gap c = false := by
  unfold Lw.gap
  rw [Bool.or_eq_false_iff]
  constructor
  · rw [beq_eq_false_iff_ne]; intro e; rw [e] at h; exact absurd h (by decide)
  · rw [beq_eq_false_iff_ne]; intro e; rw [e] at h; exact absurd h (by decide)
theorem below_iter (w : World) (s : ByteArray) (p : Nat) : Below w.heap.size w (w.iter s p) := (Below.refl _ _).alloc (Nat.le_refl _) _

set_option maxHeartbeats 4000000 in
set_option maxRecDepth 1000000 in
theorem indexRune_err (w : World) : Calls Tryz.prog 89 #[.string ⟨#[32, 9]⟩, .int .i32 65533] w fun e w' => e = .returned (.int .i64 (-1)) ∧ Below w.heap.size w w' := by
  have n0 := fun ty => run_next_ascii (P := Tryz.prog) w ⟨#[32, 9]⟩ 0 ty (by decide) (by decide)
  have n1 := fun ty => run_next_ascii (P := Tryz.prog) w ⟨#[32, 9]⟩ 1 ty (by decide) (by decide)
  have n2 := fun ty => run_next_end (P := Tryz.prog) w ⟨#[32, 9]⟩ 2 ty (by decide)
  go_enter Tryz.func89, Tryz.ntmps89
  go_wp2_with fail
  refine wp_loop_rounds 3 ?_
  rw [rounds_succ]
  go_wp2_with fail
  rw [rounds_succ]
  go_wp2_with fail
  rw [rounds_succ]
  go_wp2_with fail
  go_ret
  exact ⟨rfl, below_iter _ _ _⟩

set_option maxHeartbeats 2000000 in
set_option maxRecDepth 1000000 in
theorem validRune_calls (c : Int) (h0 : 0 ≤ c) (h1 : c ≤ 2147483647) (w : World) : Calls Tryz.prog 46 #[.int .i32 c] w fun e w' => e = .returned (.bool (validRune c)) ∧ w = w' := by
  unfold validRune
  by_cases a : c < 55296
  · rw [decide_eq_true (by omega)]
    go_enter Tryz.func46, Tryz.ntmps46
    go_wp2
    go_ret
    exact ⟨rfl, rfl⟩
  by_cases b : 57343 < c
  · by_cases d : c ≤ 1114111
    · rw [decide_eq_true (by omega)]
      go_enter Tryz.func46, Tryz.ntmps46
      go_wp2
      go_ret
      exact ⟨rfl, rfl⟩
    · rw [decide_eq_false (by omega)]
      go_enter Tryz.func46, Tryz.ntmps46
      go_wp2
      go_ret
      exact ⟨rfl, rfl⟩
  · rw [decide_eq_false (by omega)]
    go_enter Tryz.func46, Tryz.ntmps46
    go_wp2
    go_ret
    exact ⟨rfl, rfl⟩

set_option maxHeartbeats 4000000 in
set_option maxRecDepth 1000000 in
theorem indexRune_no (c : Int) (h0 : 128 ≤ c) (h1 : c ≤ 2147483647) (hne : c ≠ 65533) (hv : validRune c = false) (w : World) :
    Calls Tryz.prog 89 #[.string ⟨#[32, 9]⟩, .int .i32 c] w fun e w' => e = .returned (.int .i64 (-1)) ∧ Below w.heap.size w w' := by
  have HV := Lib.hid (validRune_calls c (by omega) h1)
  rw [hv] at HV
  have e1 : (c == 65533) = false := beq_eq_false_iff_ne.2 hne
  have e2 : decide (c < 128) = false := decide_eq_false (by omega)
  have e3 : decide (0 ≤ c) = true := decide_eq_true (by omega)
  clear hne hv
  go_enter Tryz.func89, Tryz.ntmps89
  go_wp2_with fail
  refine (HV.out _).mono ?_; rintro en w' ⟨rfl, rfl⟩
  go_wp2_with fail
  go_ret
  exact ⟨rfl, Below.refl _ _⟩

theorem indexByte_none (b : UInt8) (w : World) : Calls Tryz.prog 114 #[.string ByteArray.empty, .int .u8 b.toNat] w fun e w' => e = .returned (.int .i64 (-1)) ∧ w = w' := by
  have h := Any.strings_IndexByte Tryz.lays137 ByteArray.empty (b.toNat : Int) w
  have e : ByteArray.empty.data.toList = [] := rfl
  rw [e] at h
  exact h.mono fun _ _ h => ⟨h.1, h.2.symm⟩
set_option maxHeartbeats 8000000 in
set_option maxRecDepth 1000000 in
theorem indexRune_long (c : Int) (h0 : 128 ≤ c) (h1 : c ≤ 2147483647) (hne : c ≠ 65533) (hv : validRune c = true) (hsz : 3 ≤ (Utf8.encode c).size) (w : World) :
    Calls Tryz.prog 89 #[.string ⟨#[32, 9]⟩, .int .i32 c] w fun e w' => e = .returned (.int .i64 (-1)) ∧ Below w.heap.size w w' := by
  have HV := Lib.hid (validRune_calls c (by omega) h1)
  obtain ⟨f1, f2, -⟩ := encode_facts c (by rw [validRune_eq]; exact hv) h0
  rw [hv] at HV
  have e1 : (c == 65533) = false := beq_eq_false_iff_ne.2 hne
  have e2 : decide (c < 128) = false := decide_eq_false (by omega)
  have e3 : decide (0 ≤ c) = true := decide_eq_true (by omega)
  clear hne hv
  have h34 : (Utf8.encode c).size = 3 ∨ (Utf8.encode c).size = 4 := by omega
  clear f1 f2 hsz
  rcases h34 with h3 | h3
  all_goals
    go_enter Tryz.func89, Tryz.ntmps89
    go_wp2_with fail
    refine (HV.out _).mono ?_; rintro en w' ⟨rfl, rfl⟩
    go_wp2_with fail
    go_step3
    go_wp2_with fail
    refine wp_loop_rounds 1 ?_
    rw [rounds_succ]
    go_wp2_with fail
    rw [Exit.noGoto_ret]
    go_ret
    exact ⟨rfl, Below.refl _ _⟩
set_option maxHeartbeats 8000000 in
set_option maxRecDepth 1000000 in
theorem indexRune_two (c : Int) (h0 : 128 ≤ c) (h1 : c ≤ 2147483647) (hne : c ≠ 65533) (hv : validRune c = true) (hsz : (Utf8.encode c).size = 2) (w : World) :
    Calls Tryz.prog 89 #[.string ⟨#[32, 9]⟩, .int .i32 c] w fun e w' => e = .returned (.int .i64 (-1)) ∧ Below w.heap.size w w' := by
  have HV := Lib.hid (validRune_calls c (by omega) h1)
  obtain ⟨-, -, f3⟩ := encode_facts c (by rw [validRune_eq]; exact hv) h0
  rw [hv] at HV
  have e1 : (c == 65533) = false := beq_eq_false_iff_ne.2 hne
  have e2 : decide (c < 128) = false := decide_eq_false (by omega)
  have e3 : decide (0 ≤ c) = true := decide_eq_true (by omega)
  clear hne hv
  have hlt : 1 < (Utf8.encode c).size := by omega
  have f4 : 128 ≤ ((Utf8.encode c)[1]'hlt).toNat := by
    have := f3 (by omega)
    simpa only [hsz] using this
  clear f3
  generalize hb : (Utf8.encode c)[1]'hlt = b at *
  have HB := Lib.hid (indexByte_none b)
  have e5 : ((((⟨#[32, 9]⟩ : ByteArray)[1]'(by decide)).toNat : Int) != (b.toNat : Int)) = true := by
    rw [bne_iff_ne]
    show (9 : Int) ≠ _
    omega
  have e6 : IntKind.i64.wrap 2 = 2 := by decide
  go_enter Tryz.func89, Tryz.ntmps89
  go_wp2_with fail
  refine (HV.out _).mono ?_; rintro en w' ⟨rfl, rfl⟩
  go_wp2_with fail
  go_step3
  go_wp2_with fail
  refine wp_loop_rounds 1 ?_
  rw [rounds_succ]
  go_wp2_with fail
  go_step3
  go_wp2_with fail
  go_quiet (fail)
  have hb1 := Lib.hid (below_drewN w nq)
  generalize w.drewN nq = w1 at *
  go_wp2_with fail
  go_quiet ((go_at_call 114; exact Calls.quiet_of_same ((HB.out _).mono fun _ _ h => ⟨h.1, h.2.symm⟩)))
  have hb2 := Lib.hid (bstep hb1.out (below_drewN w1 nq))
  generalize w1.drewN nq = w2 at *
  go_wp2_with fail
  simp only [Exit.noGoto_ret, Exit.inBlock, Exit.then]
  go_ret
  exact ⟨rfl, hb2.out⟩
theorem indexRune_big (c : Int) (h0 : 128 ≤ c) (h1 : c ≤ 2147483647) (w : World) : Calls Tryz.prog 89 #[.string ⟨#[32, 9]⟩, .int .i32 c] w fun e w' => e = .returned (.int .i64 (-1)) ∧ Below w.heap.size w w' := by
  by_cases he : c = 65533
  · subst he; exact indexRune_err w
  · cases hv : validRune c with
    | false => exact indexRune_no c h0 h1 he hv w
    | true =>
      obtain ⟨f1, f2, -⟩ := encode_facts c (by rw [validRune_eq]; exact hv) h0
      by_cases h2 : (Utf8.encode c).size = 2
      · exact indexRune_two c h0 h1 he hv h2 w
      · exact indexRune_long c h0 h1 he hv (by omega) w
theorem indexRune_small (x : UInt8) (hx : x.toNat < 128) (w : World) : Calls Tryz.prog 89 #[.string ⟨#[32, 9]⟩, .int .i32 x.toNat] w fun e w' => e = .returned (.int .i64 (Lib.indexByte [32, 9] x)) ∧ Below w.heap.size w w' := by
  have h := Any.strings_IndexRune_ascii Tryz.lays152 ⟨#[32, 9]⟩ (x.toNat : Int) w (by omega) (by omega)
  have e : ((x.toNat : Int)).toNat.toUInt8 = x := by simp
  rw [e] at h
  exact h.mono fun _ _ h => ⟨h.1, h.2 ▸ Below.refl _ _⟩

/-- The iterator at a place, wherever it lies. -/
theorem run_next_at {P : Program} (W : World) (k : Nat) (s : ByteArray) (pos : Nat) (ty : TypeId) (hk : W.heap[k]? = some (.stringIter s pos)) (h : pos < s.size) :
    (Instr.next (.pointer (some ⟨k, 0, none⟩)) true ty).run P W = .ok (.tuple #[.bool true, .int .i64 pos, .int .i32 (Utf8.decode s pos).1]) { W with heap := W.heap.setIfInBounds k (.stringIter s (pos + (Utf8.decode s pos).2)) } := by
  simp only [Instr.next, getObj, setObj, Sem.run_bind, Sem.run, hk, Result.andThen, h, if_true]
  simp [goInt]
theorem run_next_off {P : Program} (W : World) (k : Nat) (s : ByteArray) (pos : Nat) (ty : TypeId) (hk : W.heap[k]? = some (.stringIter s pos)) (h : ¬ pos < s.size) :
    (Instr.next (.pointer (some ⟨k, 0, none⟩)) true ty).run P W = .ok (.tuple #[.bool false]) W := by
  simp [Instr.next, getObj, Sem.run, hk, h]
theorem put_iter (W : World) (k : Nat) (o : Obj) (B : Nat) (w0 : World) (hB : B ≤ k) (hb : Below B w0 W) : Below B w0 { W with heap := W.heap.setIfInBounds k o } := by
  refine ⟨hb.os, hb.tape, hb.output, by simpa using hb.size, fun i hi => ?_⟩
  rw [← hb.block i hi]
  show (W.heap.setIfInBounds k o)[i]? = _
  rw [Array.getElem?_setIfInBounds_ne (by omega)]
theorem put_same (W : World) (k : Nat) (o : Obj) (h : k < W.heap.size) : ({ W with heap := W.heap.setIfInBounds k o } : World).heap[k]? = some o := by
  show (W.heap.setIfInBounds k o)[k]? = _
  rw [Array.getElem?_setIfInBounds_self_of_lt h]

/-- A rune of 128 and more takes bytes of 128 and more. -/
theorem decode_bytes (s : ByteArray) (pos : Nat) (h : pos < s.size) (ha : 128 ≤ (s[pos]'h).toNat) : ∀ j, j < (Utf8.decode s pos).2 → ∃ hj : pos + j < s.size, 128 ≤ (s[pos + j]'hj).toNat := by
  have hg : ∀ k (hk : pos + k < s.size), s.get! (pos + k) = s[pos + k]'hk := fun k hk => by
    show s.get! (pos + k) = _
    simp [ByteArray.get!, getElem!_pos, hk]
    rfl
  have hc : ∀ k, (decide (pos + k < s.size) && (s.get! (pos + k)).toNat / 64 == 2) = true → ∃ hk : pos + k < s.size, 128 ≤ (s[pos + k]'hk).toNat := fun k hk => by
    simp only [Bool.and_eq_true, decide_eq_true_eq, beq_iff_eq] at hk
    refine ⟨hk.1, ?_⟩
    rw [← hg k hk.1]
    omega
  have h0 : ∃ hj : pos + 0 < s.size, 128 ≤ (s[pos + 0]'hj).toNat := ⟨h, ha⟩
  intro j hj
  simp only [Utf8.decode] at hj
  repeat' split at hj
  all_goals simp only [Bool.and_eq_true] at *
  all_goals (
    have hjs : j = 0 ∨ j = 1 ∨ j = 2 ∨ j = 3 := by omega
    rcases hjs with rfl | rfl | rfl | rfl)
  all_goals first | exact h0 | omega | (refine hc _ ?_; clear hg hc h0; simp_all)
/-- No gap ahead of a place. -/
def NoGap (s : ByteArray) (p : Nat) : Prop := ∀ j (hj : j < s.size), j < p → Lw.gap (s[j]'hj) = false
def idxR (l : List UInt8) : Int := if Lw.ahead Lw.gap l < l.length then (Lw.ahead Lw.gap l : Int) else -1
theorem ahead_eq {p : UInt8 → Bool} : ∀ (l : List UInt8) (i : Nat) (hi : i < l.length), p l[i] = true → (∀ j (hj : j < l.length), j < i → p l[j] = false) → Lw.ahead p l = i := by
  intro l
  induction l with
  | nil => intro i hi; cases hi
  | cons c r ih =>
    intro i hi h1 h2
    unfold Lw.ahead
    rw [List.takeWhile_cons]
    cases i with
    | zero => rw [if_neg (by simpa using h1)]; rfl
    | succ i =>
      have h0 := h2 0 (by simp) (by omega)
      have h0 : p c = false := h0
      rw [if_pos (by simp [h0])]
      have := ih i (by simpa using hi) (by simpa using h1) (fun j hj hji => by have := h2 (j + 1) (by simp; omega) (by omega); simpa using this)
      unfold Lw.ahead at this
      simp [this]
theorem ahead_all {p : UInt8 → Bool} : ∀ (l : List UInt8), (∀ j (hj : j < l.length), p l[j] = false) → Lw.ahead p l = l.length := by
  intro l
  induction l with
  | nil => intro _; rfl
  | cons c r ih =>
    intro h
    unfold Lw.ahead
    have h0 : p c = false := h 0 (by simp)
    rw [List.takeWhile_cons, if_pos (by simp [h0])]
    have := ih fun j hj => by have := h (j + 1) (by simp; omega); simpa using this
    unfold Lw.ahead at this
    simp [this]
theorem line_no {s : ByteArray} (h : NoGap s s.size) : idxR s.data.toList = -1 := by
  have := ahead_all (p := Lw.gap) s.data.toList fun j hj => h j (by rw [← len_of]; exact hj) (by rw [← len_of]; exact hj)
  unfold idxR
  rw [this, if_neg (by omega)]
theorem line_yes {s : ByteArray} {p : Nat} (hp : p < s.size) (h : Lw.gap (s[p]'hp) = true) (hn : NoGap s p) : idxR s.data.toList = p := by
  have hl : p < s.data.toList.length := by rw [len_of]; exact hp
  have := ahead_eq (p := Lw.gap) s.data.toList p hl h fun j hj hjp => hn j (by rw [← len_of]; exact hj) hjp
  unfold idxR
  rw [this, if_pos hl]
theorem index_small (x : UInt8) (hx : x.toNat < 128) : (0 ≤ Lib.indexByte [32, 9] x ↔ (Lw.gap x = true)) ∧ (-1 ≤ Lib.indexByte [32, 9] x ∧ Lib.indexByte [32, 9] x ≤ 1) := by
  have h : ∀ n : Fin 128, (0 ≤ Lib.indexByte [32, 9] (UInt8.ofNat n.val) ↔ (Lw.gap (UInt8.ofNat n.val) = true)) ∧ (-1 ≤ Lib.indexByte [32, 9] (UInt8.ofNat n.val) ∧ Lib.indexByte [32, 9] (UInt8.ofNat n.val) ≤ 1) := by decide +kernel
  have := h ⟨x.toNat, hx⟩
  simpa using this

set_option maxHeartbeats 8000000 in
set_option maxRecDepth 1000000 in
theorem indexAny_short (s : ByteArray) (h8 : s.size ≤ 8) (w : World) :
    Calls Tryz.prog 71 #[.string s, .string ⟨#[32, 9]⟩] w fun e w' => e = .returned (.int .i64 (idxR s.data.toList)) ∧ Below w.heap.size w w' := by
  have h8z : decide ((8 : Int) < (s.size : Int)) = false := decide_eq_false (by omega)
  have HU := Lib.hid (Any.strings_shouldUseASCIISet { Tryz.lays153 with } (s.size : Int))
  rw [h8z] at HU
  clear h8z
  go_enter Tryz.func71, Tryz.ntmps71
  go_wp2_with fail
  refine (HU.out _).mono ?_; rintro en w1 ⟨rfl, hw1⟩
  obtain rfl : w = w1 := hw1.symm
  clear hw1 HU
  go_wp2_with fail
  go_loopg [9, 10] s.size (fun g _ _ wx => ∃ i : Nat, s.size ≤ i + g ∧ wx.heap[w.heap.size]? = some (.stringIter s i) ∧ Below w.heap.size w wx ∧ NoGap s i)
  case atStart => exact ⟨0, by omega, World.iter_heap _ _ _, below_iter _ _ _, fun j _ hj => absurd hj (by omega)⟩
  case round =>
    obtain ⟨i, hig, hit, hb, hno⟩ := hrel
    have Hno := Lib.hid hno
    have Hb := Lib.hid hb
    have Hit := Lib.hid hit
    have hlt : w.heap.size < wr.heap.size := by
      rcases Nat.lt_or_ge w.heap.size wr.heap.size with h | h
      · exact h
      · rw [Array.getElem?_eq_none h] at hit; cases hit
    have Hlt := Lib.hid hlt
    by_cases hi : i < s.size
    · obtain ⟨g, rfl⟩ : ∃ g, gk = g + 1 := by
        cases gk with
        | zero => exfalso; omega
        | succ g => exact ⟨g, rfl⟩
      have hnx := fun ty => run_next_at (P := Tryz.prog) wr w.heap.size s i ty hit hi
      have hfacts : ∀ o, ∃ W2 : World, W2 = { wr with heap := wr.heap.setIfInBounds w.heap.size o } ∧ W2.heap[w.heap.size]? = some o ∧ Below w.heap.size w W2 := fun o => ⟨_, rfl, put_same wr w.heap.size o hlt, put_iter wr w.heap.size o w.heap.size w (Nat.le_refl _) hb⟩
      clear hb hno hit hlt
      by_cases hx : (s[i]'hi).toNat < 128
      · have hd := decode_ascii s i hi hx
        rw [hd] at hnx
        obtain ⟨W2, hW, hput, hbp⟩ := hfacts (.stringIter s (i + 1))
        simp only [← hW] at hnx
        have Hput := Lib.hid hput
        have Hbp := Lib.hid hbp
        clear hput hbp hfacts hW
        obtain ⟨k1, k2, k3⟩ := index_small (s[i]'hi) hx
        have HR := Lib.hid (indexRune_small (s[i]'hi) hx)
        have hxe : ∀ b : UInt8, (s[i]'hi).toNat = b.toNat → s[i]'hi = b := fun b h => UInt8.toNat_inj.1 h
        generalize hb : s[i]'hi = x at *
        have HBx := Lib.hid hb
        clear hd hb hxe
        generalize Lib.indexByte [32, 9] x = q at *
        by_cases hq : 0 ≤ q
        · have Hk := Lib.hid (k1.1 hq)
          clear k1
          go_wp2_with fail
          refine (HR.out _).mono ?_; rintro en w3 ⟨rfl, hb3⟩
          have Hb3 := Lib.hid hb3
          clear hb3
          go_wp2_with fail
          go_ret
          exact ⟨by rw [line_yes hi (by rw [HBx.out]; exact Hk.out) Hno.out]; rfl, Hbp.out.trans (Hb3.out.mono Hbp.out.size)⟩
        · have Hk : Hid (¬ (Lw.gap x = true)) := Lib.hid fun h => hq (k1.2 h)
          clear k1
          go_wp2_with fail
          refine (HR.out _).mono ?_; rintro en w3 ⟨rfl, hb3⟩
          have Hb3 := Lib.hid hb3
          clear hb3
          go_wp2_with fail
          go_roundg g
          case measure => omega
          case rel =>
            have hl : w.heap.size < W2.heap.size := by
              rcases Nat.lt_or_ge w.heap.size W2.heap.size with h | h
              · exact h
              · have := Hput.out; rw [Array.getElem?_eq_none h] at this; cases this
            refine ⟨i + 1, by omega, (Hb3.out.block _ hl).trans Hput.out, Hbp.out.trans (Hb3.out.mono Hbp.out.size), fun j hj h => ?_⟩
            by_cases e : j = i
            · subst e
              rw [HBx.out]
              exact (Bool.not_eq_true _).mp Hk.out
            · exact Hno.out j hj (by omega)
      · have hd := decode_high s i hi (by omega)
        have hle := decode_le s i
        have HBy := Lib.hid (decode_bytes s i hi (by omega))
        have HR := Lib.hid (indexRune_big ((Utf8.decode s i).1 : Int) (by omega) (by omega))
        generalize (Utf8.decode s i).1 = c at *
        generalize (Utf8.decode s i).2 = d at *
        obtain ⟨W2, hW, hput, hbp⟩ := hfacts (.stringIter s (i + d))
        simp only [← hW] at hnx
        have Hput := Lib.hid hput
        have Hbp := Lib.hid hbp
        clear hput hbp hfacts hW
        go_wp2_with fail
        refine (HR.out _).mono ?_; rintro en w3 ⟨rfl, hb3⟩
        have Hb3 := Lib.hid hb3
        clear hb3
        go_wp2_with fail
        go_roundg g
        case measure => omega
        case rel =>
          have hl : w.heap.size < W2.heap.size := by
            rcases Nat.lt_or_ge w.heap.size W2.heap.size with h | h
            · exact h
            · have := Hput.out; rw [Array.getElem?_eq_none h] at this; cases this
          refine ⟨i + d, by omega, (Hb3.out.block _ hl).trans Hput.out, Hbp.out.trans (Hb3.out.mono Hbp.out.size), fun j hj h => ?_⟩
          by_cases e : j < i
          · exact Hno.out j hj e
          · obtain ⟨hj2, hge⟩ := HBy.out (j - i) (by omega)
            have e2 : s[i + (j - i)]'hj2 = s[j]'hj := by congr 1; omega
            rw [e2] at hge
            exact gap_high hge
    · have hnx := fun ty => run_next_off (P := Tryz.prog) wr w.heap.size s i ty hit hi
      clear hb hno hlt
      go_wp2_with fail
      go_ret
      exact ⟨by rw [line_no (fun j hj h => Hno.out j hj (by omega))]; rfl, Hb.out⟩
theorem idx_any (l : List UInt8) : Lib.indexAny l [32, 9] = idxR l := by
  induction l with
  | nil => rfl
  | cons b l ih =>
    have hc : ([32, 9] : List UInt8).contains b = Lw.gap b := by unfold Lw.gap; cases h1 : b == 32 <;> cases h2 : b == 9 <;> simp [List.contains, List.elem, h1, h2]
    have hle := Lw.ahead_le Lw.gap l
    have hcons : Lw.ahead Lw.gap (b :: l) = if Lw.gap b = true then 0 else Lw.ahead Lw.gap l + 1 := by
      unfold Lw.ahead
      rw [List.takeWhile_cons]
      cases Lw.gap b <;> simp
    rw [Lib.indexAny, hc, ih]
    unfold idxR
    rw [hcons, List.length_cons]
    generalize Lw.ahead Lw.gap l = A at *
    by_cases hb : Lw.gap b = true
    · rw [if_pos hb, if_pos hb, if_pos (by omega)]
      rfl
    · rw [if_neg hb, if_neg hb]
      by_cases h : A < l.length
      · rw [if_pos h, if_neg (by rw [beq_iff_eq]; omega), if_pos (by omega)]
        rfl
      · rw [if_neg h, if_neg (show ¬ A + 1 < l.length + 1 by omega)]
        rfl
theorem indexAny_calls (s : ByteArray) (hs : s.size ≤ 1000000) (w : World) :
    Calls Tryz.prog 71 #[.string s, .string ⟨#[32, 9]⟩] w fun e w' => e = .returned (.int .i64 (idxR s.data.toList)) ∧ Below w.heap.size w w' := by
  by_cases h8 : s.size ≤ 8
  · exact indexAny_short s h8 w
  · have h116 : (Tryz.prog.info? 120).map (fun i => (i.zero, i.size)) = some (some (.agg (Array.replicate 256 (.bool false))), 256) := by kernel_rfl
    refine (Any.strings_IndexAny_long Tryz.lays153 (zero_of_info h116).1 (zero_of_info h116).2 s ⟨#[32, 9]⟩ w (by decide) (by omega) (by omega) (by decide) ?_).mono fun e w' h => ⟨?_, ?_⟩
    · intro j b hj
      have : ∀ b ∈ ([32, 9] : List UInt8), b.toNat < 128 := by decide
      exact this b (List.mem_of_getElem? hj)
    · rw [h.1]
      show Ending.returned (Value.int .i64 (Lib.indexAny s.data.toList [32, 9])) = _
      rw [idx_any]
    · rw [h.2]
      exact ((Below.refl _ _).alloc (Nat.le_refl _) _).alloc (by simp) _
open Go.Shelf Go.Lib in
theorem trimLeft_calls (s : ByteArray) (w : World) : Calls Tryz.prog 60 #[.string s, .string ⟨#[32, 9]⟩] w fun e w' =>
    e = .returned (.string ⟨(s.data.toList.dropWhile Lw.gap).toArray⟩) ∧ Below w.heap.size w w' := by
  have h := Any.strings_TrimLeft_laid Tryz.lays161 (by kernel_rfl) s ⟨#[32, 9]⟩ w (by decide) (ascii_of_all (by decide))
  have e : Lib.trimLeftS s.data.toList [32, 9] = s.data.toList.dropWhile Lw.gap := by
    unfold Lib.trimLeftS
    congr 1
    funext b
    unfold Lw.gap
    cases h1 : b == 32 <;> cases h2 : b == 9 <;> simp [List.contains, List.elem, h1, h2]
  refine h.mono fun x w' ⟨h1, h2⟩ => ⟨?_, h2⟩
  rw [h1, ← e]
end Go.Proofs.YtimgkbpiengnjaaGreatDoor.Ln
