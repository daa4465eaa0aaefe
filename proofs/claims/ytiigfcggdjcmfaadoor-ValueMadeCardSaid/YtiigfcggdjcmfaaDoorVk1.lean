/- The walk of the law ValueMade: true, at any text and any number. No condition but the text's bound. -/
import Derived.Test.YtiigfcggdjcmfaaDoorVc8
import Derived.Test.YtiigfcggdjcmfaaDoorVd1
import Derived.Test.YtiigfcggdjcmfaaDoorVf1
import Derived.Test.YtiigfcggdjcmfaaDoorWs
namespace Go.Proofs.YtiigfcggdjcmfaaDoor
open Go.ChangeShapes Go.WideShapes Go.ChangeAt Go.RowKit

theorem check_text (s : ByteArray) : checkN (vText s) = if s.size ≤ 4096 then 0 else 31 := by
  have hl : s.data.toList.length = s.size := Array.length_toList
  have h1 : (vText s).count = 1 := rfl
  have h2 : good (vText s) 8 = decide (s.size ≤ 4096) := by
    show (ownB 4 0 0 false && textB 4 s.data.toList && listB 4 0 && _ && _) = _
    have e1 : ownB 4 0 0 false = true := by decide
    have e2 : textB 4 s.data.toList = decide (s.size ≤ 4096) := by
      unfold textB
      rw [hl, if_neg (by omega), if_pos (by omega), Bool.and_true]
    have e3 : listB 4 0 = true := by decide
    rw [e1, e2, e3]
    cases decide (s.size ≤ 4096) <;> rfl
  unfold checkN
  rw [h1, h2, decide_eq_true (show 1 ≤ 1000 by omega), Bool.and_true]
  by_cases h : s.size ≤ 4096
  · rw [decide_eq_true h, if_pos h]; rfl
  · rw [decide_eq_false h, if_neg h]; rfl
theorem check_int (n : Int) : checkN (vInt n) = 0 := by
  have h2 : good (vInt n) 8 = true := by
    show (ownB 3 n 0 false && textB 3 [] && listB 3 0 && _ && _) = _
    have e1 : ownB 3 n 0 false = true := by unfold ownB; rw [show bitsN 0 = 0 by decide]; simp
    rw [e1]; rfl
  unfold checkN
  rw [h2]; rfl
theorem check_fail (s : ByteArray) (h : s.size ≤ 4096) : checkN (vFail s) = if hasLine s then 31 else 0 := by
  have hl : s.data.toList.length = s.size := Array.length_toList
  have h2 : good (vFail s) 8 = !hasLine s := by
    show (ownB 2 0 0 false && textB 2 s.data.toList && listB 2 0 && _ && _) = _
    have e1 : ownB 2 0 0 false = true := by decide
    have e2 : textB 2 s.data.toList = !hasLine s := by
      unfold textB
      rw [hl, decide_eq_true h, if_pos (by omega), Bool.true_and]
      rfl
    have e3 : listB 2 0 = true := by decide
    rw [e1, e2, e3]
    cases hasLine s <;> rfl
  unfold checkN
  rw [h2]
  cases hasLine s <;> rfl
def kid4 (s : ByteArray) (n : Int) : Nat → Val := fun i => if i = 0 then vText s else if i = 1 then vInt n else if i = 2 then vOk else vNil
theorem good_kid (v v' : Val) (h : Twin v v') : ∀ d, good v' d = good v d := by
  revert v'
  induction v with
  | no => exact fun _ h => h.elim
  | mk k t z r f a c n K ih =>
    rintro v' ⟨a', c', K', rfl, hk⟩ d
    rw [good_eq, good_eq]
    congr 1
    have : ∀ m, m ≤ n → allTo (fun i => (K' i).kind != 14 && good (K' i) (d - 1)) m = allTo (fun i => (K i).kind != 14 && good (K i) (d - 1)) m := by
      intro m
      induction m with
      | zero => intro _; rfl
      | succ m ihm =>
        intro hm
        have hki : (K' m).kind = (K m).kind := by
          have := hk m (by omega)
          cases hK : K m with
          | no => rw [hK] at this; exact this.elim
          | mk k2 t2 z2 r2 f2 a2 c2 n2 K2 =>
            rw [hK] at this
            obtain ⟨_, _, _, e, _⟩ := this
            rw [e]; rfl
        rw [allTo_succ, allTo_succ, ihm (by omega), ih m (K' m) (hk m (by omega)), hki]
    exact this n (Nat.le_refl _)
theorem check_twin {v v' : Val} (h : Twin v v') : checkN v' = checkN v := by
  unfold checkN
  rw [good_kid v v' h, h.nest.2.1]
theorem check_list (s : ByteArray) (n : Int) (h : s.size ≤ 4096) (a : Option Addr) (c : Nat) : checkN (.mk 5 ⟨#[]⟩ 0 0 false a c 4 (kid4 s n)) = 0 := by
  have g0 : good (vText s) 7 = true := by
    have hl : s.data.toList.length = s.size := Array.length_toList
    show (ownB 4 0 0 false && textB 4 s.data.toList && listB 4 0 && _ && _) = _
    have e1 : ownB 4 0 0 false = true := by decide
    have e2 : textB 4 s.data.toList = true := by
      unfold textB
      rw [hl, if_neg (by omega), if_pos (by omega), Bool.and_true, decide_eq_true h]
    rw [e1, e2]; rfl
  have g1 : good (vInt n) 7 = true := by
    show (ownB 3 n 0 false && textB 3 [] && listB 3 0 && _ && _) = _
    have e1 : ownB 3 n 0 false = true := by unfold ownB; rw [show bitsN 0 = 0 by decide]; simp
    rw [e1]; rfl
  have g2 : good vOk 7 = true := by decide +kernel
  have g3 : good vNil 7 = true := by decide +kernel
  have hall : allTo (fun i => (kid4 s n i).kind != 14 && good (kid4 s n i) (8 - 1)) 4 = true := allTo_all fun i hi => by
    rcases (show i = 0 ∨ i = 1 ∨ i = 2 ∨ i = 3 by omega) with rfl | rfl | rfl | rfl
    · show (true && good (vText s) 7) = true; rw [g0]; rfl
    · show (true && good (vInt n) 7) = true; rw [g1]; rfl
    · show (true && good vOk 7) = true; rw [g2]; rfl
    · show (true && good vNil 7) = true; rw [g3]; rfl
  have hg : good (.mk 5 ⟨#[]⟩ 0 0 false a c 4 (kid4 s n)) 8 = true := by
    rw [good_eq, hall]; rfl
  unfold checkN
  rw [hg]; rfl

/-- The law's three variables. -/
theorem three_facts (w : World) (s : ByteArray) (n : Int) :
    At (((w.alloc (.cells #[.int .i64 4, .string s, .int .i64 0, .float .f64 0, .bool false, .slice none 0 0] 25)).alloc (.cells #[.int .i64 3, .string ⟨#[]⟩, .int .i64 n, .float .f64 0, .bool false, .slice none 0 0] 25)).alloc (.cells #[.int .i64 2, .string s, .int .i64 0, .float .f64 0, .bool false, .slice none 0 0] 25)) w.heap.size 0 (vText s) ∧
    At (((w.alloc (.cells #[.int .i64 4, .string s, .int .i64 0, .float .f64 0, .bool false, .slice none 0 0] 25)).alloc (.cells #[.int .i64 3, .string ⟨#[]⟩, .int .i64 n, .float .f64 0, .bool false, .slice none 0 0] 25)).alloc (.cells #[.int .i64 2, .string s, .int .i64 0, .float .f64 0, .bool false, .slice none 0 0] 25)) (w.heap.size + 1) 0 (vInt n) ∧
    At (((w.alloc (.cells #[.int .i64 4, .string s, .int .i64 0, .float .f64 0, .bool false, .slice none 0 0] 25)).alloc (.cells #[.int .i64 3, .string ⟨#[]⟩, .int .i64 n, .float .f64 0, .bool false, .slice none 0 0] 25)).alloc (.cells #[.int .i64 2, .string s, .int .i64 0, .float .f64 0, .bool false, .slice none 0 0] 25)) (w.heap.size + 1 + 1) 0 (vFail s) ∧
    (((w.alloc (.cells #[.int .i64 4, .string s, .int .i64 0, .float .f64 0, .bool false, .slice none 0 0] 25)).alloc (.cells #[.int .i64 3, .string ⟨#[]⟩, .int .i64 n, .float .f64 0, .bool false, .slice none 0 0] 25)).alloc (.cells #[.int .i64 2, .string s, .int .i64 0, .float .f64 0, .bool false, .slice none 0 0] 25)).heap.size = w.heap.size + 3 ∧
    Below w.heap.size w (((w.alloc (.cells #[.int .i64 4, .string s, .int .i64 0, .float .f64 0, .bool false, .slice none 0 0] 25)).alloc (.cells #[.int .i64 3, .string ⟨#[]⟩, .int .i64 n, .float .f64 0, .bool false, .slice none 0 0] 25)).alloc (.cells #[.int .i64 2, .string s, .int .i64 0, .float .f64 0, .bool false, .slice none 0 0] 25)) := by
  refine ⟨⟨?_, ?_, ?_, ?_, ?_, ?_⟩, ⟨?_, ?_, ?_, ?_, ?_, ?_⟩, ⟨?_, ?_, ?_, ?_, ?_, ?_⟩, by simp, (((Below.refl _ _).alloc (Nat.le_refl _) _).alloc (by simp) _).alloc (by simp; omega) _⟩ <;> go_simp
/-- How far the text has been looked at. -/
def plainTo (s : ByteArray) : Nat → Bool
  | 0 => true
  | j + 1 => plainTo s j && (if h : j < s.size then (s[j]'h != 10 && s[j]'h != 13) else true)
theorem plain_noline (s : ByteArray) : ∀ j, j ≤ s.size → (plainTo s j = true ↔ NoLine s j)
  | 0, _ => ⟨fun _ j _ h => absurd h (by omega), fun _ => rfl⟩
  | j + 1, hj => by
    have ih := plain_noline s j (by omega)
    have hlt : j < s.size := by omega
    show (plainTo s j && _) = true ↔ _
    rw [dif_pos hlt, Bool.and_eq_true, ih]
    constructor
    · rintro ⟨h1, h2⟩ i hi hij
      by_cases e : i = j
      · subst e
        simp only [Bool.and_eq_true, bne_iff_ne, ne_eq] at h2
        exact ⟨h2.2, h2.1⟩
      · exact h1 i hi (by omega)
    · intro h
      refine ⟨fun i hi hij => h i hi (by omega), ?_⟩
      have := h j hlt (by omega)
      simp only [Bool.and_eq_true, bne_iff_ne, ne_eq]
      exact ⟨this.2, this.1⟩
theorem plain_all (s : ByteArray) : plainTo s s.size = !hasLine s := by
  cases h : hasLine s with
  | false =>
    refine (plain_noline s s.size (Nat.le_refl _)).2 fun j hj _ => ?_
    refine ⟨fun e => ?_, fun e => ?_⟩
    · have := line_yes hj (.inl e); rw [h] at this; cases this
    · have := line_yes hj (.inr e); rw [h] at this; cases this
  | true =>
    cases hp : plainTo s s.size with
    | false => rfl
    | true =>
      have := line_no ((plain_noline s s.size (Nat.le_refl _)).1 hp)
      rw [h] at this; cases this

set_option maxHeartbeats 4000000 in
set_option maxRecDepth 100000 in
theorem made_long (s : ByteArray) (hs : 4096 < s.size) (hm : s.size ≤ 281474976710656) (n : Int) (w : World) : Calls Tryd.prog 5 #[.string s, .int .i64 n] w fun e w' => e = .returned (.bool true) ∧ Below w.heap.size w w' := by
  have HT := Lib.hid (vtext_calls s)
  have hck : ∀ w1 : World, Calls Tryd.prog 9 #[(vText s).agg] w1 (Checked (vText s) w1) := fun w1 => by
    have hl : Lies (fun b => b < w1.heap.size) w1 (vText s) := lies_text (by
      refine ⟨?_, ?_, hm, ?_, ?_, ?_, ?_, ?_, ?_⟩ <;> decide) none
    exact check_calls (vText s) (fun b => b < w1.heap.size) w1 (fun _ h => h) hl (fits_lies hl)
  have HC := Lib.hid hck
  have hn := check_text s
  rw [if_neg (by omega)] at hn
  have Hn := Lib.hid hn
  clear hck hn
  go_enter Tryd.func5, Tryd.ntmps5
  go_wp2_with fail
  refine (valive_calls w).mono ?_; rintro en w1 ⟨rfl, hb1⟩
  have Hb1 := Lib.hid hb1
  clear hb1
  go_wp2_with fail
  refine (HT.out _).mono ?_; rintro en w2 ⟨rfl, hb2⟩
  have Hb2 := Lib.hid (bstep Hb1.out hb2)
  clear hb2
  go_wp2_with fail
  refine (HC.out _).mono ?_; rintro en w3 ⟨rfl, hb3⟩
  rw [Hn.out]
  have Hb3 := Lib.hid (bstep Hb2.out hb3)
  clear hb3
  go_wp2_with fail
  go_ret
  exact ⟨rfl, Hb3.out⟩

/-- The law's three variables, in whatever world holds them. -/
def Three (b : Nat) (s : ByteArray) (n : Int) (w : World) : Prop := At w b 0 (vText s) ∧ At w (b + 1) 0 (vInt n) ∧ At w (b + 1 + 1) 0 (vFail s) ∧ b + 3 ≤ w.heap.size
theorem Three.below {b : Nat} {s : ByteArray} {n : Int} {w w' : World} (h : Three b s n w) (hb : Below w.heap.size w w') : Three b s n w' := by
  obtain ⟨h1, h2, h3, h4⟩ := h
  exact ⟨h1.below hb (by omega), h2.below hb (by omega), h3.below hb (by omega), Nat.le_trans h4 hb.size⟩
theorem lies_t (s : ByteArray) (hm : s.size ≤ 281474976710656) (S : Nat → Prop) (w : World) : Lies S w (vText s) := lies_text (by refine ⟨?_, ?_, hm, ?_, ?_, ?_, ?_, ?_, ?_⟩ <;> decide) none
theorem lies_i (n : Int) (h0 : -9223372036854775808 ≤ n) (h1 : n ≤ 9223372036854775807) (S : Nat → Prop) (w : World) : Lies S w (vInt n) := lies_text (by refine ⟨?_, ?_, ?_, h0, h1, ?_, ?_, ?_, ?_⟩ <;> decide) none
theorem lies_f (s : ByteArray) (hm : s.size ≤ 281474976710656) (S : Nat → Prop) (w : World) : Lies S w (vFail s) := lies_text (by refine ⟨?_, ?_, hm, ?_, ?_, ?_, ?_, ?_, ?_⟩ <;> decide) none
theorem check_any (v : Val) (hl : ∀ S w, Lies S w v) (w : World) : Calls Tryd.prog 9 #[v.agg] w (Checked v w) :=
  check_calls v (fun b => b < w.heap.size) w (fun _ h => h) (hl _ _) (fits_lies (hl (fun _ => True) w))

theorem row4_facts (w : World) (s : ByteArray) (n : Int) :
    At (w.alloc (.cells #[.int .i64 4, .string s, .int .i64 0, .float .f64 0, .bool false, .slice none 0 0, .int .i64 3, .string ⟨#[]⟩, .int .i64 n, .float .f64 0, .bool false, .slice none 0 0, .int .i64 1, .string ⟨#[79, 75]⟩, .int .i64 0, .float .f64 0, .bool false, .slice none 0 0, .int .i64 6, .string ⟨#[]⟩, .int .i64 0, .float .f64 0, .bool false, .slice none 0 0] 25)) w.heap.size 0 (vText s) ∧ At (w.alloc (.cells #[.int .i64 4, .string s, .int .i64 0, .float .f64 0, .bool false, .slice none 0 0, .int .i64 3, .string ⟨#[]⟩, .int .i64 n, .float .f64 0, .bool false, .slice none 0 0, .int .i64 1, .string ⟨#[79, 75]⟩, .int .i64 0, .float .f64 0, .bool false, .slice none 0 0, .int .i64 6, .string ⟨#[]⟩, .int .i64 0, .float .f64 0, .bool false, .slice none 0 0] 25)) w.heap.size 6 (vInt n) ∧ At (w.alloc (.cells #[.int .i64 4, .string s, .int .i64 0, .float .f64 0, .bool false, .slice none 0 0, .int .i64 3, .string ⟨#[]⟩, .int .i64 n, .float .f64 0, .bool false, .slice none 0 0, .int .i64 1, .string ⟨#[79, 75]⟩, .int .i64 0, .float .f64 0, .bool false, .slice none 0 0, .int .i64 6, .string ⟨#[]⟩, .int .i64 0, .float .f64 0, .bool false, .slice none 0 0] 25)) w.heap.size 12 vOk ∧ At (w.alloc (.cells #[.int .i64 4, .string s, .int .i64 0, .float .f64 0, .bool false, .slice none 0 0, .int .i64 3, .string ⟨#[]⟩, .int .i64 n, .float .f64 0, .bool false, .slice none 0 0, .int .i64 1, .string ⟨#[79, 75]⟩, .int .i64 0, .float .f64 0, .bool false, .slice none 0 0, .int .i64 6, .string ⟨#[]⟩, .int .i64 0, .float .f64 0, .bool false, .slice none 0 0] 25)) w.heap.size 18 vNil ∧ (w.alloc (.cells #[.int .i64 4, .string s, .int .i64 0, .float .f64 0, .bool false, .slice none 0 0, .int .i64 3, .string ⟨#[]⟩, .int .i64 n, .float .f64 0, .bool false, .slice none 0 0, .int .i64 1, .string ⟨#[79, 75]⟩, .int .i64 0, .float .f64 0, .bool false, .slice none 0 0, .int .i64 6, .string ⟨#[]⟩, .int .i64 0, .float .f64 0, .bool false, .slice none 0 0] 25)).heap.size = w.heap.size + 1 := by
  refine ⟨⟨?_, ?_, ?_, ?_, ?_, ?_⟩, ⟨?_, ?_, ?_, ?_, ?_, ?_⟩, ⟨?_, ?_, ?_, ?_, ?_, ?_⟩, ⟨?_, ?_, ?_, ?_, ?_, ?_⟩, by simp⟩ <;> go_simp
theorem lies_row4 {w : World} {b : Nat} {s : ByteArray} {n : Int} (hb : b < w.heap.size) (hm : s.size ≤ 281474976710656) (n0 : -9223372036854775808 ≤ n) (n1 : n ≤ 9223372036854775807)
    (h0 : At w b 0 (vText s)) (h1 : At w b 6 (vInt n)) (h2 : At w b 12 vOk) (h3 : At w b 18 vNil) : Lies (fun b => b < w.heap.size) w (.mk 5 ⟨#[]⟩ 0 0 false (some ⟨b, 0, none⟩) 4 4 (kid4 s n)) := by
  refine ⟨by decide, fun _ => ⟨b, 0, rfl, hb⟩, fun i hi => ⟨fun b2 o2 e => ?_, ?_⟩⟩
  · injection e with e
    injection e with e1 e2
    subst e1 e2
    rcases (show i = 0 ∨ i = 1 ∨ i = 2 ∨ i = 3 by omega) with rfl | rfl | rfl | rfl
    · exact h0
    · exact h1
    · exact h2
    · exact h3
  · rcases (show i = 0 ∨ i = 1 ∨ i = 2 ∨ i = 3 by omega) with rfl | rfl | rfl | rfl
    · exact lies_t s hm _ _
    · exact lies_i n n0 n1 _ _
    · exact lies_text (by decide) _
    · exact lies_text (by decide) _
theorem apart_made (s : ByteArray) (n : Int) : same (vText s) (vInt n) = false := by
  show (decide _ && _) = false
  rw [decide_eq_false (fun h => absurd h.1 (by decide))]
  rfl
/-- The list that is made of them, and what Check says of it. -/
theorem list_made (s : ByteArray) (hs : s.size ≤ 4096) (n : Int) (n0 : -9223372036854775808 ≤ n) (n1 : n ≤ 9223372036854775807) (w : World) :
    Calls Tryd.prog 15 #[.slice (some ⟨w.heap.size, 0, none⟩) 4 4] (w.alloc (.cells #[.int .i64 4, .string s, .int .i64 0, .float .f64 0, .bool false, .slice none 0 0, .int .i64 3, .string ⟨#[]⟩, .int .i64 n, .float .f64 0, .bool false, .slice none 0 0, .int .i64 1, .string ⟨#[79, 75]⟩, .int .i64 0, .float .f64 0, .bool false, .slice none 0 0, .int .i64 6, .string ⟨#[]⟩, .int .i64 0, .float .f64 0, .bool false, .slice none 0 0] 25)) fun e w' => ∃ v, e = .returned v ∧ (∃ a c, v = .agg #[.int .i64 5, .string ⟨#[]⟩, .int .i64 0, .float .f64 0, .bool false, .slice a 4 c] ∧ Below w.heap.size w w' ∧
      ∀ w2, Below w'.heap.size w' w2 → Calls Tryd.prog 9 #[v] w2 fun e w3 => ∃ x, e = .returned x ∧ (x = .int .i64 0 ∧ Below w2.heap.size w2 w3)) := by
  obtain ⟨f0, f1, f2, f3, f4⟩ := row4_facts w s n
  have hal : Below w.heap.size w (w.alloc (.cells #[.int .i64 4, .string s, .int .i64 0, .float .f64 0, .bool false, .slice none 0 0, .int .i64 3, .string ⟨#[]⟩, .int .i64 n, .float .f64 0, .bool false, .slice none 0 0, .int .i64 1, .string ⟨#[79, 75]⟩, .int .i64 0, .float .f64 0, .bool false, .slice none 0 0, .int .i64 6, .string ⟨#[]⟩, .int .i64 0, .float .f64 0, .bool false, .slice none 0 0] 25)) := (Below.refl _ _).alloc (Nat.le_refl _) _
  generalize hW : (w.alloc (.cells #[.int .i64 4, .string s, .int .i64 0, .float .f64 0, .bool false, .slice none 0 0, .int .i64 3, .string ⟨#[]⟩, .int .i64 n, .float .f64 0, .bool false, .slice none 0 0, .int .i64 1, .string ⟨#[79, 75]⟩, .int .i64 0, .float .f64 0, .bool false, .slice none 0 0, .int .i64 6, .string ⟨#[]⟩, .int .i64 0, .float .f64 0, .bool false, .slice none 0 0] 25)) = W at *
  refine (list_calls (some ⟨w.heap.size, 0, none⟩) 4 4 (kid4 s n) (fun b => b < W.heap.size) W (fun _ h => h) (lies_row4 (by omega) (by omega) n0 n1 f0 f1 f2 f3) (fun i hi => ?_)).mono ?_
  · rcases (show i = 0 ∨ i = 1 ∨ i = 2 ∨ i = 3 by omega) with rfl | rfl | rfl | rfl
    · exact ⟨by show (1 + 0 : Nat) ≤ _; omega, by show (1 + 0 : Nat) ≤ _; omega⟩
    · exact ⟨by show (1 + 0 : Nat) ≤ _; omega, by show (1 + 0 : Nat) ≤ _; omega⟩
    · exact ⟨by show (1 + 0 : Nat) ≤ _; omega, by show (1 + 0 : Nat) ≤ _; omega⟩
    · exact ⟨by show (1 + 0 : Nat) ≤ _; omega, by show (1 + 0 : Nat) ≤ _; omega⟩
  · rintro e w' ⟨v', rfl, htw, hb, hn⟩
    have hck := (check_twin htw).trans (check_list s n hs _ _)
    have hl := hn.lies
    obtain ⟨a', c', K', rfl, -⟩ := htw
    refine ⟨_, rfl, a', c', rfl, hal.trans (hb.mono (by omega)), fun w2 h2 => ?_⟩
    have hl2 := hl.below h2 (fun b hb => hb.2)
    refine (check_calls _ _ w2 (fun b hb => Nat.lt_of_lt_of_le hb.2 h2.size) hl2 (fits_lies hl2)).mono ?_
    rintro e w3 ⟨rfl, hb3⟩
    rw [hck]
    exact ⟨_, rfl, rfl, hb3⟩
theorem check_step (v : Val) (hl : ∀ S w, Lies S w v) (x : Int) (hx : checkN v = x) (w : World) : Calls Tryd.prog 9 #[v.agg] w fun e w' => ∃ y, e = .returned y ∧ (y = .int .i64 x ∧ Below w.heap.size w w') :=
  (check_any v hl w).mono fun _ _ h => ⟨_, h.1, by rw [hx], h.2⟩
theorem ok_step (w : World) : Calls Tryd.prog 19 #[] w fun e w' => ∃ y, e = .returned y ∧ (y = .agg #[.int .i64 1, .string ⟨#[79, 75]⟩, .int .i64 0, .float .f64 0, .bool false, .slice none 0 0] ∧ Below w.heap.size w w') :=
  (vok_calls w).mono fun _ _ h => ⟨_, h.1, rfl, h.2⟩
theorem nil_step (w : World) : Calls Tryd.prog 20 #[] w fun e w' => ∃ y, e = .returned y ∧ (y = .agg #[.int .i64 6, .string ⟨#[]⟩, .int .i64 0, .float .f64 0, .bool false, .slice none 0 0] ∧ Below w.heap.size w w') :=
  (vnil_calls w).mono fun _ _ h => ⟨_, h.1, rfl, h.2⟩
theorem same_step (s : ByteArray) (hm : s.size ≤ 281474976710656) (n : Int) (n0 : -9223372036854775808 ≤ n) (n1 : n ≤ 9223372036854775807) (w : World) :
    Calls Tryd.prog 21 #[(vText s).agg, (vInt n).agg] w fun e w' => ∃ y, e = .returned y ∧ (y = .bool false ∧ Below w.heap.size w w') :=
  (vsame_calls (vText s) (vInt n) (fun b => b < w.heap.size) w (fun _ h => h) (lies_t s hm _ _) (lies_i n n0 n1 _ _) (by show (1 + 0 : Nat) ≤ _; omega)).mono fun _ _ h => ⟨_, h.1, by rw [apart_made], h.2⟩

set_option maxHeartbeats 8000000 in
set_option maxRecDepth 100000 in
theorem made_short (s : ByteArray) (hs : s.size ≤ 4096) (n : Int) (h0 : -9223372036854775808 ≤ n) (h1 : n ≤ 9223372036854775807) (w : World) :
    Calls Tryd.prog 5 #[.string s, .int .i64 n] w fun e w' => e = .returned (.bool true) ∧ Below w.heap.size w w' := by
  have HT := Lib.hid (vtext_calls s)
  have HI := Lib.hid (vint_calls n)
  have HF := Lib.hid (vfail_calls s)
  have Hall := Lib.hid (plain_all s)
  go_enter Tryd.func5, Tryd.ntmps5
  go_wp2_with fail
  refine (valive_calls w).mono ?_; rintro en w1 ⟨rfl, hb1⟩
  have Hb1 := Lib.hid hb1
  clear hb1
  go_wp2_with fail
  go_loopw [5, 6] (fun p i wr => ∃ j : Nat, j ≤ s.size ∧ i = .int .i64 j ∧ p = .bool (plainTo s j) ∧ Below w.heap.size w wr) (fun _ i _ => s.size - (intOf i).toNat)
  case atStart => exact ⟨0, by omega, rfl, rfl, Hb1.out⟩
  case round =>
    obtain ⟨j, hj, rfl, rfl, hb⟩ := hrel
    have Hb := Lib.hid hb
    clear hb
    by_cases hlt : j < s.size
    · have hstep : plainTo s (j + 1) = (plainTo s j && (s[j]'hlt != 10 && s[j]'hlt != 13)) := by
        show (plainTo s j && _) = _
        rw [dif_pos hlt]
      have hx : ∀ c : UInt8, (((s[j]'hlt).toNat : Int) != (c.toNat : Int)) = (s[j]'hlt != c) := fun c => by
        by_cases e : s[j]'hlt = c
        · rw [e]; simp
        · have e1 : (s[j]'hlt != c) = true := by simpa using e
          rw [e1, bne_iff_ne]
          intro h
          exact e (UInt8.toNat_inj.1 (by omega))
      have x10 : (((s[j]'hlt).toNat : Int) != 10) = (s[j]'hlt != 10) := hx 10
      have x13 : (((s[j]'hlt).toNat : Int) != 13) = (s[j]'hlt != 13) := hx 13
      generalize hq : s[j]'hlt = q at *
      generalize hp : plainTo s j = p at *
      have Hstep := Lib.hid hstep
      clear hstep hx hp
      generalize hb10 : (q != 10) = b10 at *
      generalize hb13 : (q != 13) = b13 at *
      clear hb10 hb13
      cases p
      · go_wp2_with fail
        go_roundw
        case rel => exact ⟨j + 1, by omega, by go_num, by rw [Hstep.out]; rfl, Hb.out⟩
        case measure => simp [intOf]; omega
      · cases b10
        · go_wp2_with fail
          go_roundw
          case rel => exact ⟨j + 1, by omega, by go_num, by rw [Hstep.out]; rfl, Hb.out⟩
          case measure => simp [intOf]; omega
        · cases b13
          · go_wp2_with fail
            go_roundw
            case rel => exact ⟨j + 1, by omega, by go_num, by rw [Hstep.out]; rfl, Hb.out⟩
            case measure => simp [intOf]; omega
          · go_wp2_with fail
            go_roundw
            case rel => exact ⟨j + 1, by omega, by go_num, by rw [Hstep.out]; rfl, Hb.out⟩
            case measure => simp [intOf]; omega
    · obtain rfl : j = s.size := by omega
      rw [Hall.out]
      generalize hq : hasLine s = q at *
      have Hq := Lib.hid hq
      clear hq Hall
      go_wp2_with fail
      refine (HT.out _).mono ?_; rintro en w2 ⟨rfl, hb2⟩
      unfold vText Val.agg
      have Hb2 := Lib.hid (bstep Hb.out hb2)
      clear hb2
      go_wp2_with fail
      refine (HI.out _).mono ?_; rintro en w3 ⟨rfl, hb3⟩
      unfold vInt Val.agg
      have Hb3 := Lib.hid (bstep Hb2.out hb3)
      clear hb3
      go_wp2_with fail
      refine (HF.out _).mono ?_; rintro en w4 ⟨rfl, hb4⟩
      unfold vFail Val.agg
      have Hb4 := Lib.hid (bstep Hb3.out hb4)
      clear hb4
      go_wp2_with fail
      obtain ⟨f1, f2, f3, f4, f5⟩ := three_facts w4 s n
      have hthree := (show Three w4.heap.size s n _ from ⟨f1, f2, f3, Nat.le_of_eq f4.symm⟩)
      have hb5 := bstep Hb4.out f5
      generalize hW : (((w4.alloc _).alloc _).alloc _) = W5 at *
      generalize w4.heap.size = B at *
      have T5 := Lib.hid hthree
      have Hb5 := Lib.hid hb5
      clear f1 f2 f3 f4 f5 hthree hb5 hW
      have HS : Hid (∀ w', Three B s n w' → (fun w' : World => w'.cell? ⟨B, 0, none⟩ = some (.int .i64 4) ∧ w'.cell? ⟨B, 1, none⟩ = some (.string s) ∧ w'.cell? ⟨B, 2, none⟩ = some (.int .i64 0) ∧ w'.cell? ⟨B, 3, none⟩ = some (.float .f64 0) ∧ w'.cell? ⟨B, 4, none⟩ = some (.bool false) ∧ w'.cell? ⟨B, 5, none⟩ = some (.slice none 0 0) ∧ w'.cell? ⟨B + 1, 0, none⟩ = some (.int .i64 3) ∧ w'.cell? ⟨B + 1, 1, none⟩ = some (.string ⟨#[]⟩) ∧ w'.cell? ⟨B + 1, 2, none⟩ = some (.int .i64 n) ∧ w'.cell? ⟨B + 1, 3, none⟩ = some (.float .f64 0) ∧ w'.cell? ⟨B + 1, 4, none⟩ = some (.bool false) ∧ w'.cell? ⟨B + 1, 5, none⟩ = some (.slice none 0 0) ∧ w'.cell? ⟨B + 1 + 1, 0, none⟩ = some (.int .i64 2) ∧ w'.cell? ⟨B + 1 + 1, 1, none⟩ = some (.string s) ∧ w'.cell? ⟨B + 1 + 1, 2, none⟩ = some (.int .i64 0) ∧ w'.cell? ⟨B + 1 + 1, 3, none⟩ = some (.float .f64 0) ∧ w'.cell? ⟨B + 1 + 1, 4, none⟩ = some (.bool false) ∧ w'.cell? ⟨B + 1 + 1, 5, none⟩ = some (.slice none 0 0)) w') := Lib.hid fun w' h => by
        obtain ⟨⟨a0, a1, a2, a3, a4, a5⟩, ⟨c0, c1, c2, c3, c4, c5⟩, ⟨d0, d1, d2, d3, d4, d5⟩, -⟩ := h
        exact ⟨a0, a1, a2, a3, a4, a5, c0, c1, c2, c3, c4, c5, d0, d1, d2, d3, d4, d5⟩
      have C1 := Lib.hid (check_step (vText s) (lies_t s (by omega)) 0 ((check_text s).trans (if_pos hs)))
      have C2 := Lib.hid (check_step (vInt n) (lies_i n h0 h1) 0 (check_int n))
      have C3 := Lib.hid (check_step (vFail s) (lies_f s (by omega)) (if q then 31 else 0) (by rw [check_fail s hs, Hq.out]))
      have C4 := Lib.hid (list_made s hs n h0 h1)
      have C5 := Lib.hid (same_step s (by omega) n h0 h1)
      have K1 := Lib.hid ok_step
      have K2 := Lib.hid nil_step
      have E1 := Lib.hid (enters_of_fn Tryd.func9 (by kernel_rfl) rfl)
      have E2 := Lib.hid (enters_of_fn Tryd.func19 (by kernel_rfl) rfl)
      have E3 := Lib.hid (enters_of_fn Tryd.func20 (by kernel_rfl) rfl)
      have E4 := Lib.hid (enters_of_fn Tryd.func15 (by kernel_rfl) rfl)
      have E5 := Lib.hid (enters_of_fn Tryd.func21 (by kernel_rfl) rfl)
      cases q
      · go_region_held3 (fun w' : World => w'.cell? ⟨B, 0, none⟩ = some (.int .i64 4) ∧ w'.cell? ⟨B, 1, none⟩ = some (.string s) ∧ w'.cell? ⟨B, 2, none⟩ = some (.int .i64 0) ∧ w'.cell? ⟨B, 3, none⟩ = some (.float .f64 0) ∧ w'.cell? ⟨B, 4, none⟩ = some (.bool false) ∧ w'.cell? ⟨B, 5, none⟩ = some (.slice none 0 0) ∧ w'.cell? ⟨B + 1, 0, none⟩ = some (.int .i64 3) ∧ w'.cell? ⟨B + 1, 1, none⟩ = some (.string ⟨#[]⟩) ∧ w'.cell? ⟨B + 1, 2, none⟩ = some (.int .i64 n) ∧ w'.cell? ⟨B + 1, 3, none⟩ = some (.float .f64 0) ∧ w'.cell? ⟨B + 1, 4, none⟩ = some (.bool false) ∧ w'.cell? ⟨B + 1, 5, none⟩ = some (.slice none 0 0) ∧ w'.cell? ⟨B + 1 + 1, 0, none⟩ = some (.int .i64 2) ∧ w'.cell? ⟨B + 1 + 1, 1, none⟩ = some (.string s) ∧ w'.cell? ⟨B + 1 + 1, 2, none⟩ = some (.int .i64 0) ∧ w'.cell? ⟨B + 1 + 1, 3, none⟩ = some (.float .f64 0) ∧ w'.cell? ⟨B + 1 + 1, 4, none⟩ = some (.bool false) ∧ w'.cell? ⟨B + 1 + 1, 5, none⟩ = some (.slice none 0 0))
          (first | exact HS.out _ (T5.out.below (Below.refl _ _).drew) | exact HS.out _ T6.out | exact HS.out _ T7.out | exact HS.out _ T8.out | exact HS.out _ T9.out | exact HS.out _ T10.out | exact HS.out _ (T10.out.below ((Below.refl _ _).alloc (Nat.le_refl _) _)) | exact HS.out _ T12.out | exact HS.out _ T13.out | exact HS.out _ T14.out)
          (first
            | (refine step_callG ?hw 9 _ _ rfl #[.agg #[.int .i64 4, .string s, .int .i64 0, .float .f64 0, .bool false, .slice none 0 0]] ?hx E1.out (C1.out _) ?_; (case hw => first | rfl | (simp [Region.wanted, yielded]; done)); (case hx => simp [Act.eval]; done); rintro v6 w6 ⟨rfl, hbz⟩; have T6 := Lib.hid (T5.out.below ((Below.refl _ _).drew.trans hbz)); have Hb6 := Lib.hid (bstep Hb5.out ((Below.refl _ _).drew.trans hbz)); clear hbz)
            | (refine step_callG ?hw 9 _ _ rfl #[.agg #[.int .i64 3, .string ⟨#[]⟩, .int .i64 n, .float .f64 0, .bool false, .slice none 0 0]] ?hx E1.out (C2.out _) ?_; (case hw => first | rfl | (simp [Region.wanted, yielded]; done)); (case hx => simp [Act.eval]; done); rintro v7 w7 ⟨rfl, hbz⟩; have T7 := Lib.hid (T6.out.below (hbz)); have Hb7 := Lib.hid (bstep Hb6.out (hbz)); clear hbz)
            | (refine step_callG ?hw 9 _ _ rfl #[.agg #[.int .i64 2, .string s, .int .i64 0, .float .f64 0, .bool false, .slice none 0 0]] ?hx E1.out (C3.out _) ?_; (case hw => first | rfl | (simp [Region.wanted, yielded]; done)); (case hx => simp [Act.eval]; done); rintro v8 w8 ⟨rfl, hbz⟩; have T8 := Lib.hid (T7.out.below (hbz)); have Hb8 := Lib.hid (bstep Hb7.out (hbz)); clear hbz)
            | (refine step_callG ?hw 19 _ _ rfl #[] ?hx E2.out (K1.out _) ?_; (case hx => simp; done); (case hw => first | rfl | (simp [Region.wanted, yielded]; done)); rintro v9 w9 ⟨rfl, hbz⟩; have T9 := Lib.hid (T8.out.below (hbz)); have Hb9 := Lib.hid (bstep Hb8.out (hbz)); clear hbz)
            | (refine step_callG ?hw 20 _ _ rfl #[] ?hx E3.out (K2.out _) ?_; (case hx => simp; done); (case hw => first | rfl | (simp [Region.wanted, yielded]; done)); rintro v10 w10 ⟨rfl, hbz⟩; have T10 := Lib.hid (T9.out.below (hbz)); have Hb10 := Lib.hid (bstep Hb9.out (hbz)); clear hbz)
            | (refine step_callG ?hw 15 _ _ rfl #[.slice (some ⟨w10.heap.size, 0, none⟩) 4 4] ?hx E4.out (C4.out w10) ?_; (case hw => first | rfl | (simp [Region.wanted, yielded]; done)); (case hx => simp [Act.eval]; done); rintro v11 w12 ⟨a12, c12, rfl, hbz, hck⟩; have Ck := Lib.hid hck; clear hck; have T12 := Lib.hid (T10.out.below (hbz)); have Hb12 := Lib.hid (bstep Hb10.out (hbz)); clear hbz)
            | (refine step_callG ?hw 9 _ _ rfl #[.agg #[.int .i64 5, .string ⟨#[]⟩, .int .i64 0, .float .f64 0, .bool false, .slice a12 4 c12]] ?hx E1.out (Ck.out _ (Below.refl _ _)) ?_; (case hw => first | rfl | (simp [Region.wanted, yielded]; done)); (case hx => simp [Act.eval]; done); rintro v13 w13 ⟨rfl, hbz⟩; have T13 := Lib.hid (T12.out.below (hbz)); have Hb13 := Lib.hid (bstep Hb12.out (hbz)); clear hbz)
            | (refine step_callG ?hw 21 _ _ rfl #[.agg #[.int .i64 4, .string s, .int .i64 0, .float .f64 0, .bool false, .slice none 0 0], .agg #[.int .i64 3, .string ⟨#[]⟩, .int .i64 n, .float .f64 0, .bool false, .slice none 0 0]] ?hx E5.out (C5.out _) ?_; (case hw => first | rfl | (simp [Region.wanted, yielded]; done)); (case hx => simp [Act.eval]; done); rintro v14 w14 ⟨rfl, hbz⟩; have T14 := Lib.hid (T13.out.below (hbz)); have Hb14 := Lib.hid (bstep Hb13.out (hbz)); clear hbz))
        go_wp2_with fail
        go_ret
        exact ⟨rfl, Hb14.out⟩
      · go_region_held3 (fun w' : World => w'.cell? ⟨B, 0, none⟩ = some (.int .i64 4) ∧ w'.cell? ⟨B, 1, none⟩ = some (.string s) ∧ w'.cell? ⟨B, 2, none⟩ = some (.int .i64 0) ∧ w'.cell? ⟨B, 3, none⟩ = some (.float .f64 0) ∧ w'.cell? ⟨B, 4, none⟩ = some (.bool false) ∧ w'.cell? ⟨B, 5, none⟩ = some (.slice none 0 0) ∧ w'.cell? ⟨B + 1, 0, none⟩ = some (.int .i64 3) ∧ w'.cell? ⟨B + 1, 1, none⟩ = some (.string ⟨#[]⟩) ∧ w'.cell? ⟨B + 1, 2, none⟩ = some (.int .i64 n) ∧ w'.cell? ⟨B + 1, 3, none⟩ = some (.float .f64 0) ∧ w'.cell? ⟨B + 1, 4, none⟩ = some (.bool false) ∧ w'.cell? ⟨B + 1, 5, none⟩ = some (.slice none 0 0) ∧ w'.cell? ⟨B + 1 + 1, 0, none⟩ = some (.int .i64 2) ∧ w'.cell? ⟨B + 1 + 1, 1, none⟩ = some (.string s) ∧ w'.cell? ⟨B + 1 + 1, 2, none⟩ = some (.int .i64 0) ∧ w'.cell? ⟨B + 1 + 1, 3, none⟩ = some (.float .f64 0) ∧ w'.cell? ⟨B + 1 + 1, 4, none⟩ = some (.bool false) ∧ w'.cell? ⟨B + 1 + 1, 5, none⟩ = some (.slice none 0 0))
          (first | exact HS.out _ (T5.out.below (Below.refl _ _).drew) | exact HS.out _ T6.out | exact HS.out _ T7.out | exact HS.out _ T8.out | exact HS.out _ T9.out | exact HS.out _ T10.out | exact HS.out _ (T10.out.below ((Below.refl _ _).alloc (Nat.le_refl _) _)) | exact HS.out _ T12.out | exact HS.out _ T13.out | exact HS.out _ T14.out)
          (first
            | (refine step_callG ?hw 9 _ _ rfl #[.agg #[.int .i64 4, .string s, .int .i64 0, .float .f64 0, .bool false, .slice none 0 0]] ?hx E1.out (C1.out _) ?_; (case hw => first | rfl | (simp [Region.wanted, yielded]; done)); (case hx => simp [Act.eval]; done); rintro v6 w6 ⟨rfl, hbz⟩; have T6 := Lib.hid (T5.out.below ((Below.refl _ _).drew.trans hbz)); have Hb6 := Lib.hid (bstep Hb5.out ((Below.refl _ _).drew.trans hbz)); clear hbz)
            | (refine step_callG ?hw 9 _ _ rfl #[.agg #[.int .i64 3, .string ⟨#[]⟩, .int .i64 n, .float .f64 0, .bool false, .slice none 0 0]] ?hx E1.out (C2.out _) ?_; (case hw => first | rfl | (simp [Region.wanted, yielded]; done)); (case hx => simp [Act.eval]; done); rintro v7 w7 ⟨rfl, hbz⟩; have T7 := Lib.hid (T6.out.below (hbz)); have Hb7 := Lib.hid (bstep Hb6.out (hbz)); clear hbz)
            | (refine step_callG ?hw 9 _ _ rfl #[.agg #[.int .i64 2, .string s, .int .i64 0, .float .f64 0, .bool false, .slice none 0 0]] ?hx E1.out (C3.out _) ?_; (case hw => first | rfl | (simp [Region.wanted, yielded]; done)); (case hx => simp [Act.eval]; done); rintro v8 w8 ⟨rfl, hbz⟩; have T8 := Lib.hid (T7.out.below (hbz)); have Hb8 := Lib.hid (bstep Hb7.out (hbz)); clear hbz)
            | (refine step_callG ?hw 19 _ _ rfl #[] ?hx E2.out (K1.out _) ?_; (case hx => simp; done); (case hw => first | rfl | (simp [Region.wanted, yielded]; done)); rintro v9 w9 ⟨rfl, hbz⟩; have T9 := Lib.hid (T8.out.below (hbz)); have Hb9 := Lib.hid (bstep Hb8.out (hbz)); clear hbz)
            | (refine step_callG ?hw 20 _ _ rfl #[] ?hx E3.out (K2.out _) ?_; (case hx => simp; done); (case hw => first | rfl | (simp [Region.wanted, yielded]; done)); rintro v10 w10 ⟨rfl, hbz⟩; have T10 := Lib.hid (T9.out.below (hbz)); have Hb10 := Lib.hid (bstep Hb9.out (hbz)); clear hbz)
            | (refine step_callG ?hw 15 _ _ rfl #[.slice (some ⟨w10.heap.size, 0, none⟩) 4 4] ?hx E4.out (C4.out w10) ?_; (case hw => first | rfl | (simp [Region.wanted, yielded]; done)); (case hx => simp [Act.eval]; done); rintro v11 w12 ⟨a12, c12, rfl, hbz, hck⟩; have Ck := Lib.hid hck; clear hck; have T12 := Lib.hid (T10.out.below (hbz)); have Hb12 := Lib.hid (bstep Hb10.out (hbz)); clear hbz)
            | (refine step_callG ?hw 9 _ _ rfl #[.agg #[.int .i64 5, .string ⟨#[]⟩, .int .i64 0, .float .f64 0, .bool false, .slice a12 4 c12]] ?hx E1.out (Ck.out _ (Below.refl _ _)) ?_; (case hw => first | rfl | (simp [Region.wanted, yielded]; done)); (case hx => simp [Act.eval]; done); rintro v13 w13 ⟨rfl, hbz⟩; have T13 := Lib.hid (T12.out.below (hbz)); have Hb13 := Lib.hid (bstep Hb12.out (hbz)); clear hbz)
            | (refine step_callG ?hw 21 _ _ rfl #[.agg #[.int .i64 4, .string s, .int .i64 0, .float .f64 0, .bool false, .slice none 0 0], .agg #[.int .i64 3, .string ⟨#[]⟩, .int .i64 n, .float .f64 0, .bool false, .slice none 0 0]] ?hx E5.out (C5.out _) ?_; (case hw => first | rfl | (simp [Region.wanted, yielded]; done)); (case hx => simp [Act.eval]; done); rintro v14 w14 ⟨rfl, hbz⟩; have T14 := Lib.hid (T13.out.below (hbz)); have Hb14 := Lib.hid (bstep Hb13.out (hbz)); clear hbz))
        go_wp2_with fail
        go_ret
        exact ⟨rfl, Hb14.out⟩
theorem valueMade (s : ByteArray) (hm : s.size ≤ 281474976710656) (n : Int) (h0 : -9223372036854775808 ≤ n) (h1 : n ≤ 9223372036854775807) (w : World) :
    Calls Tryd.prog 5 #[.string s, .int .i64 n] w fun e w' => e = .returned (.bool true) ∧ Below w.heap.size w w' := by
  by_cases hs : s.size ≤ 4096
  · exact made_short s hs n h0 h1 w
  · exact made_long s (by omega) hm n w
end Go.Proofs.YtiigfcggdjcmfaaDoor
