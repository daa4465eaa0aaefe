/- strings.IndexAny and ContainsAny of CR LF at EVERY text; package value's textFits at a line. No condition but the text's bound. -/
import Derived.Test.YtiigfcggdjcmfaaDoorVc7
import Derived.Test.YtiigfcggdjcmfaaDoorVc6
import Derived.Shelf.Strings.IndexAnyAll
namespace Go.Proofs.YtiigfcggdjcmfaaDoor
open Go.ChangeShapes Go.WideShapes Go.ChangeAt Go.RowKit

theorem indexRune_big (c : Int) (h0 : 128 ≤ c) (h1 : c ≤ 2147483647) (w : World) : Calls Tryd.prog 76 #[.string ⟨#[13, 10]⟩, .int .i32 c] w fun e w' => e = .returned (.int .i64 (-1)) ∧ Below w.heap.size w w' := by
  by_cases he : c = 65533
  · subst he; exact indexRune_err w
  · cases hv : validRune c with
    | false => exact indexRune_no c h0 h1 he hv w
    | true =>
      obtain ⟨f1, f2, -⟩ := encode_facts c (by rw [validRune_eq]; exact hv) h0
      by_cases h2 : (Utf8.encode c).size = 2
      · exact indexRune_two c h0 h1 he hv h2 w
      · exact indexRune_long c h0 h1 he hv (by omega) w
theorem indexRune_small (x : UInt8) (hx : x.toNat < 128) (w : World) : Calls Tryd.prog 76 #[.string ⟨#[13, 10]⟩, .int .i32 x.toNat] w fun e w' => e = .returned (.int .i64 (Lib.indexByte [13, 10] x)) ∧ Below w.heap.size w w' := by
  have h := Any.strings_IndexRune_ascii Tryd.lays152 ⟨#[13, 10]⟩ (x.toNat : Int) w (by omega) (by omega)
  have e : ((x.toNat : Int)).toNat.toUInt8 = x := by simp
  rw [e] at h
  exact h.mono fun _ _ h => ⟨h.1, h.2 ▸ Below.refl _ _⟩

/-- The iterator at a place, wherever it lies. -/
theorem run_next_at {P : Program} (W : World) (k : Nat) (s : ByteArray) (pos : Nat) (ty : TypeId) (hk : W.heap[k]? = some (.stringIter s pos)) (h : pos < s.size) :
    (Instr.next (.pointer (some ⟨k, 0, none⟩)) true ty).run P W = .ok (.tuple #[.bool true, .int .i64 pos, .int .i32 (Utf8.decode s pos).1]) { W with heap := W.heap.setIfInBounds k (.stringIter s (pos + (Utf8.decode s pos).2)) } := by
  simp only [Instr.next, getObj, setObj, Sem.run_bind, Sem.run, hk, Result.andThen, h, if_true]
  simp [goInt]
theorem run_next_off {P : Program} (W : World) (k : Nat) (s : ByteArray) (pos : Nat) (ty : TypeId) (hk : W.heap[k]? = some (.stringIter s pos)) (h : ¬ pos < s.size) :
    (Instr.next (.pointer (some ⟨k, 0, none⟩)) true ty).run P W = .ok (.tuple #[.bool false]) W := by
  simp [Instr.next, getObj, Sem.run, hk, h]
theorem put_iter (W : World) (k : Nat) (o : Obj) (B : Nat) (w0 : World) (hB : B ≤ k) (hb : Below B w0 W) : Below B w0 { W with heap := W.heap.setIfInBounds k o } := by
  refine ⟨hb.os, hb.tape, hb.output, by simpa using hb.size, fun i hi => ?_⟩
  rw [← hb.block i hi]
  show (W.heap.setIfInBounds k o)[i]? = _
  rw [Array.getElem?_setIfInBounds_ne (by omega)]
theorem put_same (W : World) (k : Nat) (o : Obj) (h : k < W.heap.size) : ({ W with heap := W.heap.setIfInBounds k o } : World).heap[k]? = some o := by
  show (W.heap.setIfInBounds k o)[k]? = _
  rw [Array.getElem?_setIfInBounds_self_of_lt h]

/-- A rune of 128 and more takes bytes of 128 and more. -/
theorem decode_bytes (s : ByteArray) (pos : Nat) (h : pos < s.size) (ha : 128 ≤ (s[pos]'h).toNat) : ∀ j, j < (Utf8.decode s pos).2 → ∃ hj : pos + j < s.size, 128 ≤ (s[pos + j]'hj).toNat := by
  have hg : ∀ k (hk : pos + k < s.size), s.get! (pos + k) = s[pos + k]'hk := fun k hk => by
    show s.get! (pos + k) = _
    simp [ByteArray.get!, getElem!_pos, hk]
    rfl
  have hc : ∀ k, (decide (pos + k < s.size) && (s.get! (pos + k)).toNat / 64 == 2) = true → ∃ hk : pos + k < s.size, 128 ≤ (s[pos + k]'hk).toNat := fun k hk => by
    simp only [Bool.and_eq_true, decide_eq_true_eq, beq_iff_eq] at hk
    refine ⟨hk.1, ?_⟩
    rw [← hg k hk.1]
    omega
  have h0 : ∃ hj : pos + 0 < s.size, 128 ≤ (s[pos + 0]'hj).toNat := ⟨h, ha⟩
  intro j hj
  simp only [Utf8.decode] at hj
  repeat' split at hj
  all_goals simp only [Bool.and_eq_true] at *
  all_goals (
    have hjs : j = 0 ∨ j = 1 ∨ j = 2 ∨ j = 3 := by omega
    rcases hjs with rfl | rfl | rfl | rfl)
  all_goals first | exact h0 | omega | (refine hc _ ?_; clear hg hc h0; simp_all)
/-- No line ends ahead of a place. -/
def NoLine (s : ByteArray) (p : Nat) : Prop := ∀ j (hj : j < s.size), j < p → s[j]'hj ≠ 13 ∧ s[j]'hj ≠ 10
def hasLine (s : ByteArray) : Bool := s.data.toList.any fun b => b == 13 || b == 10
theorem line_no {s : ByteArray} (h : NoLine s s.size) : hasLine s = false := by
  unfold hasLine
  rw [List.any_eq_false]
  intro b hb hc
  obtain ⟨i, hi, rfl⟩ := List.getElem_of_mem hb
  have hi' : i < s.size := by rw [Array.length_toList] at hi; exact hi
  have := h i hi' hi'
  have e : s.data.toList[i] = s[i]'hi' := rfl
  rw [e] at hc
  simp only [Bool.or_eq_true, beq_iff_eq] at hc
  rcases hc with hc | hc
  · exact this.1 hc
  · exact this.2 hc
theorem line_yes {s : ByteArray} {p : Nat} (hp : p < s.size) (h : s[p]'hp = 13 ∨ s[p]'hp = 10) : hasLine s = true := by
  unfold hasLine
  rw [List.any_eq_true]
  have hl : p < s.data.toList.length := by rw [Array.length_toList]; exact hp
  refine ⟨s.data.toList[p]'hl, List.getElem_mem _, ?_⟩
  have e : s.data.toList[p]'hl = s[p]'hp := rfl
  rw [e]
  rcases h with h | h <;> rw [h] <;> decide
theorem index_small (x : UInt8) (hx : x.toNat < 128) : (0 ≤ Lib.indexByte [13, 10] x ↔ (x = 13 ∨ x = 10)) ∧ (-1 ≤ Lib.indexByte [13, 10] x ∧ Lib.indexByte [13, 10] x ≤ 1) := by
  have h : ∀ n : Fin 128, (0 ≤ Lib.indexByte [13, 10] (UInt8.ofNat n.val) ↔ (UInt8.ofNat n.val = 13 ∨ UInt8.ofNat n.val = 10)) ∧ (-1 ≤ Lib.indexByte [13, 10] (UInt8.ofNat n.val) ∧ Lib.indexByte [13, 10] (UInt8.ofNat n.val) ≤ 1) := by decide +kernel
  have := h ⟨x.toNat, hx⟩
  simpa using this

set_option maxHeartbeats 8000000 in
set_option maxRecDepth 1000000 in
theorem indexAny_short (s : ByteArray) (h8 : s.size ≤ 8) (w : World) :
    Calls Tryd.prog 65 #[.string s, .string ⟨#[13, 10]⟩] w fun e w' => ∃ x : Int, e = .returned (.int .i64 x) ∧ decide (0 ≤ x) = hasLine s ∧ Below w.heap.size w w' := by
  have h8z : decide ((8 : Int) < (s.size : Int)) = false := decide_eq_false (by omega)
  have HU := Lib.hid (Any.strings_shouldUseASCIISet { Tryd.lays153 with } (s.size : Int))
  rw [h8z] at HU
  clear h8z
  go_enter Tryd.func65, Tryd.ntmps65
  go_wp2_with fail
  refine (HU.out _).mono ?_; rintro en w1 ⟨rfl, hw1⟩
  obtain rfl : w = w1 := hw1.symm
  clear hw1 HU
  go_wp2_with fail
  go_loopg [9, 10] s.size (fun g _ _ wx => ∃ i : Nat, s.size ≤ i + g ∧ wx.heap[w.heap.size]? = some (.stringIter s i) ∧ Below w.heap.size w wx ∧ NoLine s i)
  case atStart => exact ⟨0, by omega, World.iter_heap _ _ _, below_iter _ _ _, fun j _ hj => absurd hj (by omega)⟩
  case round =>
    obtain ⟨i, hig, hit, hb, hno⟩ := hrel
    have Hno := Lib.hid hno
    have Hb := Lib.hid hb
    have Hit := Lib.hid hit
    have hlt : w.heap.size < wr.heap.size := by
      rcases Nat.lt_or_ge w.heap.size wr.heap.size with h | h
      · exact h
      · rw [Array.getElem?_eq_none h] at hit; cases hit
    have Hlt := Lib.hid hlt
    by_cases hi : i < s.size
    · obtain ⟨g, rfl⟩ : ∃ g, gk = g + 1 := by
        cases gk with
        | zero => exfalso; omega
        | succ g => exact ⟨g, rfl⟩
      have hnx := fun ty => run_next_at (P := Tryd.prog) wr w.heap.size s i ty hit hi
      have hfacts : ∀ o, ∃ W2 : World, W2 = { wr with heap := wr.heap.setIfInBounds w.heap.size o } ∧ W2.heap[w.heap.size]? = some o ∧ Below w.heap.size w W2 := fun o => ⟨_, rfl, put_same wr w.heap.size o hlt, put_iter wr w.heap.size o w.heap.size w (Nat.le_refl _) hb⟩
      clear hb hno hit hlt
      by_cases hx : (s[i]'hi).toNat < 128
      · have hd := decode_ascii s i hi hx
        rw [hd] at hnx
        obtain ⟨W2, hW, hput, hbp⟩ := hfacts (.stringIter s (i + 1))
        simp only [← hW] at hnx
        have Hput := Lib.hid hput
        have Hbp := Lib.hid hbp
        clear hput hbp hfacts hW
        obtain ⟨k1, k2, k3⟩ := index_small (s[i]'hi) hx
        have HR := Lib.hid (indexRune_small (s[i]'hi) hx)
        have hxe : ∀ b : UInt8, (s[i]'hi).toNat = b.toNat → s[i]'hi = b := fun b h => UInt8.toNat_inj.1 h
        generalize hb : s[i]'hi = x at *
        have HBx := Lib.hid hb
        clear hd hb hxe
        generalize Lib.indexByte [13, 10] x = q at *
        by_cases hq : 0 ≤ q
        · have Hk := Lib.hid (k1.1 hq)
          clear k1
          go_wp2_with fail
          refine (HR.out _).mono ?_; rintro en w3 ⟨rfl, hb3⟩
          have Hb3 := Lib.hid hb3
          clear hb3
          go_wp2_with fail
          go_ret
          exact ⟨i, rfl, by rw [line_yes hi (by rw [HBx.out]; exact Hk.out)]; simp, Hbp.out.trans (Hb3.out.mono Hbp.out.size)⟩
        · have Hk : Hid (¬ (x = 13 ∨ x = 10)) := Lib.hid fun h => hq (k1.2 h)
          clear k1
          go_wp2_with fail
          refine (HR.out _).mono ?_; rintro en w3 ⟨rfl, hb3⟩
          have Hb3 := Lib.hid hb3
          clear hb3
          go_wp2_with fail
          go_roundg g
          case measure => omega
          case rel =>
            have hl : w.heap.size < W2.heap.size := by
              rcases Nat.lt_or_ge w.heap.size W2.heap.size with h | h
              · exact h
              · have := Hput.out; rw [Array.getElem?_eq_none h] at this; cases this
            refine ⟨i + 1, by omega, (Hb3.out.block _ hl).trans Hput.out, Hbp.out.trans (Hb3.out.mono Hbp.out.size), fun j hj h => ?_⟩
            by_cases e : j = i
            · subst e
              rw [HBx.out]
              exact ⟨fun h => Hk.out (.inl h), fun h => Hk.out (.inr h)⟩
            · exact Hno.out j hj (by omega)
      · have hd := decode_high s i hi (by omega)
        have hle := decode_le s i
        have HBy := Lib.hid (decode_bytes s i hi (by omega))
        have HR := Lib.hid (indexRune_big ((Utf8.decode s i).1 : Int) (by omega) (by omega))
        generalize (Utf8.decode s i).1 = c at *
        generalize (Utf8.decode s i).2 = d at *
        obtain ⟨W2, hW, hput, hbp⟩ := hfacts (.stringIter s (i + d))
        simp only [← hW] at hnx
        have Hput := Lib.hid hput
        have Hbp := Lib.hid hbp
        clear hput hbp hfacts hW
        go_wp2_with fail
        refine (HR.out _).mono ?_; rintro en w3 ⟨rfl, hb3⟩
        have Hb3 := Lib.hid hb3
        clear hb3
        go_wp2_with fail
        go_roundg g
        case measure => omega
        case rel =>
          have hl : w.heap.size < W2.heap.size := by
            rcases Nat.lt_or_ge w.heap.size W2.heap.size with h | h
            · exact h
            · have := Hput.out; rw [Array.getElem?_eq_none h] at this; cases this
          refine ⟨i + d, by omega, (Hb3.out.block _ hl).trans Hput.out, Hbp.out.trans (Hb3.out.mono Hbp.out.size), fun j hj h => ?_⟩
          by_cases e : j < i
          · exact Hno.out j hj e
          · obtain ⟨hj2, hge⟩ := HBy.out (j - i) (by omega)
            have e2 : s[i + (j - i)]'hj2 = s[j]'hj := by congr 1; omega
            rw [e2] at hge
            exact ⟨fun h => by rw [h] at hge; exact absurd hge (by decide), fun h => by rw [h] at hge; exact absurd hge (by decide)⟩
    · have hnx := fun ty => run_next_off (P := Tryd.prog) wr w.heap.size s i ty hit hi
      clear hb hno hlt
      go_wp2_with fail
      go_ret
      exact ⟨-1, rfl, by rw [line_no (fun j hj h => Hno.out j hj (by omega))]; rfl, Hb.out⟩
theorem any_two (l : List UInt8) : decide (0 ≤ Lib.indexAny l [13, 10]) = l.any fun b => b == 13 || b == 10 := by
  induction l with
  | nil => rfl
  | cons b l ih =>
    have hge := Lib.indexAny_ge [13, 10] l
    rw [List.any_cons, ← ih, Lib.indexAny]
    have hc : ([13, 10] : List UInt8).contains b = (b == 13 || b == 10) := by cases h1 : b == 13 <;> cases h2 : b == 10 <;> simp [List.contains, List.elem, h1, h2]
    rw [hc]
    by_cases hb : (b == 13 || b == 10) = true
    · rw [if_pos hb, hb]; rfl
    · rw [if_neg hb, (Bool.not_eq_true _).mp hb, Bool.false_or]
      by_cases he : Lib.indexAny l [13, 10] = -1
      · rw [he]; rfl
      · rw [if_neg (by simpa using he)]
        by_cases h0 : 0 ≤ Lib.indexAny l [13, 10]
        · rw [decide_eq_true h0, decide_eq_true (by omega)]
        · rw [decide_eq_false h0, decide_eq_false (by omega)]
theorem indexAny_calls (s : ByteArray) (hs : s.size ≤ 4096) (w : World) :
    Calls Tryd.prog 65 #[.string s, .string ⟨#[13, 10]⟩] w fun e w' => ∃ x : Int, e = .returned (.int .i64 x) ∧ decide (0 ≤ x) = hasLine s ∧ Below w.heap.size w w' := by
  by_cases h8 : s.size ≤ 8
  · exact indexAny_short s h8 w
  · have h116 : (Tryd.prog.info? 81).map (fun i => (i.zero, i.size)) = some (some (.agg (Array.replicate 256 (.bool false))), 256) := by kernel_rfl
    refine (Any.strings_IndexAny_long Tryd.lays153 (zero_of_info h116).1 (zero_of_info h116).2 s ⟨#[13, 10]⟩ w (by decide) (by omega) (by omega) (by decide) ?_).mono fun e w' h => ⟨_, h.1, any_two _, ?_⟩
    · intro j b hj
      have : ∀ b ∈ ([13, 10] : List UInt8), b.toNat < 128 := by decide
      exact this b (List.mem_of_getElem? hj)
    · rw [h.2]
      exact ((Below.refl _ _).alloc (Nat.le_refl _) _).alloc (by simp) _
set_option maxHeartbeats 1000000 in
theorem containsAny_calls (s : ByteArray) (hs : s.size ≤ 4096) (w : World) :
    Calls Tryd.prog 55 #[.string s, .string ⟨#[13, 10]⟩] w fun e w' => e = .returned (.bool (hasLine s)) ∧ Below w.heap.size w w' := by
  have H := Lib.hid (indexAny_calls s hs)
  go_enter Tryd.func55, Tryd.ntmps55
  go_wp2_with fail
  refine (H.out _).mono ?_; rintro en w' ⟨x, rfl, hx, hb⟩
  have Hx := Lib.hid hx
  have Hb := Lib.hid hb
  clear hx hb
  go_wp2_with fail
  go_ret
  exact ⟨by rw [← Hx.out]; rfl, Hb.out⟩
set_option maxHeartbeats 1000000 in
theorem fits_line (k : Int) (t : ByteArray) (hk : k = 1 ∨ k = 2) (hm : t.size ≤ 9223372036854775807) : Fits k t := by
  by_cases h : t.size ≤ 4096
  case neg => exact fits_long k t h hm
  intro w
  rw [short_yes h, if_pos hk]
  have H := Lib.hid (containsAny_calls t h)
  have e : (t.data.toList.any fun b => b == 13 || b == 10) = hasLine t := rfl
  rw [e]
  generalize hasLine t = q at *
  clear e
  rcases hk with rfl | rfl
  all_goals
    go_enter Tryd.func37, Tryd.ntmps37
    go_wp2_with fail
    refine (H.out _).mono ?_; rintro en w1 ⟨rfl, hb1⟩
    have Hb := Lib.hid hb1
    clear hb1
    go_wp2_with fail
    go_ret
    exact ⟨rfl, Hb.out⟩
theorem fits_all (k : Int) (t : ByteArray) (hm : t.size ≤ 9223372036854775807) : Fits k t := by
  by_cases h : 1 ≤ k ∧ k ≤ 14
  · have hc : (k = 1 ∨ k = 2) ∨ (k = 4 ∨ k = 10) ∨ k = 9 ∨ k = 11 ∨ (k = 3 ∨ k = 5 ∨ k = 6 ∨ k = 7 ∨ k = 8 ∨ k = 12 ∨ k = 13 ∨ k = 14) := by omega
    rcases hc with h | h | rfl | rfl | h
    · exact fits_line k t h hm
    · exact fits_bulk k t h hm
    · exact fits_big t hm
    · exact fits_verb t hm
    · exact fits_none k t h hm
  · exact fits_other k t (by omega) hm
/-- Whatever lies in memory can be asked. -/
theorem fits_lies {S : Nat → Prop} {w : World} : ∀ {v : Val}, Lies S w v → v.fits := by
  intro v
  induction v with
  | no => exact fun h => h.elim
  | mk k t z r f a c n K ih =>
    intro hl
    obtain ⟨⟨-, -, ht, -⟩, -, hk⟩ := hl
    exact ⟨fits_all k t (by omega), fun i hi => ih i (hk i hi).2⟩
end Go.Proofs.YtiigfcggdjcmfaaDoor
