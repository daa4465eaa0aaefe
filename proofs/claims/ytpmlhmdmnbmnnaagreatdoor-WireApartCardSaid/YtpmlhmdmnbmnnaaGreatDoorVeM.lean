/- The call valueAlive: true. No condition. -/
import Derived.Test.YtpmlhmdmnbmnnaaGreatDoorVcN
import Derived.Deep.DeepCutAuto
namespace Go.Proofs.YtpmlhmdmnbmnnaaGreatDoor
open Go.ChangeShapes Go.WideShapes Go.ChangeAt Go.RowKit

theorem At.lits {w : World} {b : Nat} {k : Int} {t : ByteArray} {z : Int} {r : Nat} {f : Bool} {a : Option Addr} {c n : Nat} {K : Nat → Val} (h : At w b 0 (.mk k t z r f a c n K)) :
    w.cell? ⟨b, 0, none⟩ = some (.int .i64 k) ∧ w.cell? ⟨b, 1, none⟩ = some (.string t) ∧ w.cell? ⟨b, 2, none⟩ = some (.int .i64 z) ∧ w.cell? ⟨b, 3, none⟩ = some (.float .f64 r) ∧ w.cell? ⟨b, 4, none⟩ = some (.bool f) ∧ w.cell? ⟨b, 5, none⟩ = some (.slice a n c) := h
def kid1 : Nat → Val := fun _ => vText ⟨#[97]⟩
def kid2 : Nat → Val := fun i => if i = 0 then vText ⟨#[97]⟩ else vInt 1
def vMap (b n : Nat) (K : Nat → Val) : Val := .mk 12 ⟨#[]⟩ 0 0 false (some ⟨b, 0, none⟩) n n K
theorem map1_facts (w : World) :
    At ((w.alloc (.cells #[.int .i64 4, .string ⟨#[97]⟩, .int .i64 0, .float .f64 0, .bool false, .slice none 0 0] 36)).alloc (.cells #[.int .i64 12, .string ⟨#[]⟩, .int .i64 0, .float .f64 0, .bool false, .slice (some ⟨w.heap.size, 0, none⟩) 1 1] 36)) w.heap.size 0 (vText ⟨#[97]⟩) ∧
    At ((w.alloc (.cells #[.int .i64 4, .string ⟨#[97]⟩, .int .i64 0, .float .f64 0, .bool false, .slice none 0 0] 36)).alloc (.cells #[.int .i64 12, .string ⟨#[]⟩, .int .i64 0, .float .f64 0, .bool false, .slice (some ⟨w.heap.size, 0, none⟩) 1 1] 36)) (w.heap.size + 1) 0 (vMap w.heap.size 1 kid1) ∧
    ((w.alloc (.cells #[.int .i64 4, .string ⟨#[97]⟩, .int .i64 0, .float .f64 0, .bool false, .slice none 0 0] 36)).alloc (.cells #[.int .i64 12, .string ⟨#[]⟩, .int .i64 0, .float .f64 0, .bool false, .slice (some ⟨w.heap.size, 0, none⟩) 1 1] 36)).heap.size = w.heap.size + 2 ∧
    Below w.heap.size w ((w.alloc (.cells #[.int .i64 4, .string ⟨#[97]⟩, .int .i64 0, .float .f64 0, .bool false, .slice none 0 0] 36)).alloc (.cells #[.int .i64 12, .string ⟨#[]⟩, .int .i64 0, .float .f64 0, .bool false, .slice (some ⟨w.heap.size, 0, none⟩) 1 1] 36)) := by
  refine ⟨⟨?_, ?_, ?_, ?_, ?_, ?_⟩, ⟨?_, ?_, ?_, ?_, ?_, ?_⟩, by simp, ((Below.refl _ _).alloc (Nat.le_refl _) _).alloc (by simp) _⟩ <;> go_simp
theorem map2_facts (w : World) :
    At ((w.alloc (.cells #[.int .i64 4, .string ⟨#[97]⟩, .int .i64 0, .float .f64 0, .bool false, .slice none 0 0, .int .i64 3, .string ⟨#[]⟩, .int .i64 1, .float .f64 0, .bool false, .slice none 0 0] 36)).alloc (.cells #[.int .i64 12, .string ⟨#[]⟩, .int .i64 0, .float .f64 0, .bool false, .slice (some ⟨w.heap.size, 0, none⟩) 2 2] 36)) w.heap.size 0 (vText ⟨#[97]⟩) ∧
    At ((w.alloc (.cells #[.int .i64 4, .string ⟨#[97]⟩, .int .i64 0, .float .f64 0, .bool false, .slice none 0 0, .int .i64 3, .string ⟨#[]⟩, .int .i64 1, .float .f64 0, .bool false, .slice none 0 0] 36)).alloc (.cells #[.int .i64 12, .string ⟨#[]⟩, .int .i64 0, .float .f64 0, .bool false, .slice (some ⟨w.heap.size, 0, none⟩) 2 2] 36)) w.heap.size 6 (vInt 1) ∧
    At ((w.alloc (.cells #[.int .i64 4, .string ⟨#[97]⟩, .int .i64 0, .float .f64 0, .bool false, .slice none 0 0, .int .i64 3, .string ⟨#[]⟩, .int .i64 1, .float .f64 0, .bool false, .slice none 0 0] 36)).alloc (.cells #[.int .i64 12, .string ⟨#[]⟩, .int .i64 0, .float .f64 0, .bool false, .slice (some ⟨w.heap.size, 0, none⟩) 2 2] 36)) (w.heap.size + 1) 0 (vMap w.heap.size 2 kid2) ∧
    ((w.alloc (.cells #[.int .i64 4, .string ⟨#[97]⟩, .int .i64 0, .float .f64 0, .bool false, .slice none 0 0, .int .i64 3, .string ⟨#[]⟩, .int .i64 1, .float .f64 0, .bool false, .slice none 0 0] 36)).alloc (.cells #[.int .i64 12, .string ⟨#[]⟩, .int .i64 0, .float .f64 0, .bool false, .slice (some ⟨w.heap.size, 0, none⟩) 2 2] 36)).heap.size = w.heap.size + 2 ∧
    Below w.heap.size w ((w.alloc (.cells #[.int .i64 4, .string ⟨#[97]⟩, .int .i64 0, .float .f64 0, .bool false, .slice none 0 0, .int .i64 3, .string ⟨#[]⟩, .int .i64 1, .float .f64 0, .bool false, .slice none 0 0] 36)).alloc (.cells #[.int .i64 12, .string ⟨#[]⟩, .int .i64 0, .float .f64 0, .bool false, .slice (some ⟨w.heap.size, 0, none⟩) 2 2] 36)) := by
  refine ⟨⟨?_, ?_, ?_, ?_, ?_, ?_⟩, ⟨?_, ?_, ?_, ?_, ?_, ?_⟩, ⟨?_, ?_, ?_, ?_, ?_, ?_⟩, by simp, ((Below.refl _ _).alloc (Nat.le_refl _) _).alloc (by simp) _⟩ <;> go_simp

theorem lies_text {S : Nat → Prop} {w : World} {k : Int} {s : ByteArray} {z : Int} {r : Nat} {f : Bool} {c : Nat} {K : Nat → Val} (h : -9223372036854775808 ≤ k ∧ k ≤ 9223372036854775807 ∧ s.size ≤ 281474976710656 ∧ -9223372036854775808 ≤ z ∧ z ≤ 9223372036854775807 ∧ r < 18446744073709551616 ∧ 0 ≤ c ∧ c ≤ 9223372036854775807 ∧ 0 * 72 ≤ 281474976710656) (a : Option Addr) :
    Lies S w (.mk k s z r f a c 0 K) := ⟨h, fun h => absurd h (by omega), fun i hi => absurd hi (by omega)⟩
theorem lies_map1 {S : Nat → Prop} {w : World} {b : Nat} (hb : S b) (h : At w b 0 (vText ⟨#[97]⟩)) : Lies S w (vMap b 1 kid1) := by
  refine ⟨by decide, fun _ => ⟨b, 0, rfl, hb⟩, fun i hi => ⟨fun b2 o2 e => ?_, lies_text (by decide) _⟩⟩
  injection e with e
  injection e with e1 e2
  subst e1 e2
  obtain rfl : i = 0 := by omega
  exact h
theorem lies_map2 {S : Nat → Prop} {w : World} {b : Nat} (hb : S b) (h0 : At w b 0 (vText ⟨#[97]⟩)) (h1 : At w b 6 (vInt 1)) : Lies S w (vMap b 2 kid2) := by
  refine ⟨by decide, fun _ => ⟨b, 0, rfl, hb⟩, fun i hi => ⟨fun b2 o2 e => ?_, ?_⟩⟩
  · injection e with e
    injection e with e1 e2
    subst e1 e2
    rcases (show i = 0 ∨ i = 1 by omega) with rfl | rfl
    · exact h0
    · exact h1
  · rcases (show i = 0 ∨ i = 1 by omega) with rfl | rfl
    · exact lies_text (by decide) _
    · exact lies_text (by decide) _
theorem fits_map1 (b : Nat) : (vMap b 1 kid1).fits := ⟨fits_none _ _ (by omega) (by decide), fun i hi => ⟨fits_bulk _ _ (by omega) (by decide), fun i hi => absurd hi (by omega)⟩⟩
theorem fits_map2 (b : Nat) : (vMap b 2 kid2).fits := ⟨fits_none _ _ (by omega) (by decide), fun i hi => by
  rcases (show i = 0 ∨ i = 1 by omega) with rfl | rfl
  · exact ⟨fits_bulk _ _ (by omega) (by decide), fun i hi => absurd hi (by omega)⟩
  · exact ⟨fits_none _ _ (by omega) (by decide), fun i hi => absurd hi (by omega)⟩⟩
theorem check_map1 (b : Nat) : checkN (vMap b 1 kid1) = 31 := by rfl
theorem check_map2 (b : Nat) : checkN (vMap b 2 kid2) = 0 := by rfl
theorem depth_map2 (b : Nat) : (vMap b 2 kid2).depth = 1 := by rfl
theorem count_map2 (b : Nat) : (vMap b 2 kid2).count = 3 := by rfl
theorem nest_map2 (b : Nat) : (vMap b 2 kid2).nest = 2 := by rfl

end Go.Proofs.YtpmlhmdmnbmnnaaGreatDoor
/- The document's Shallow, Small and Count of values. Conditions: bounds of the numbers; of Count, that it fits. -/
namespace Go.Proofs.YtpmlhmdmnbmnnaaGreatDoor
open Go.ChangeShapes Go.WideShapes Go.ChangeAt Go.RowKit

def foldS (g : Nat → Int → Int) : Nat → Int → Int
  | 0, m => m
  | i + 1, m => if foldS g i m < 0 then -1 else if g i (foldS g i m) < 0 then -1 else g i (foldS g i m)
def shal : Val → Int → Int → Int
  | .no, _, _ => -1
  | .mk _ _ _ _ _ _ _ n K, deep, many => if deep < 0 ∨ many < 1 then -1 else foldS (fun i m => shal (K i) (deep - 1) m) n (many - 1)
theorem foldS_succ (g : Nat → Int → Int) (i : Nat) (m : Int) : foldS g (i + 1) m = if foldS g i m < 0 then -1 else if g i (foldS g i m) < 0 then -1 else g i (foldS g i m) := rfl
theorem foldS_neg {g : Nat → Int → Int} {m : Int} {i n : Nat} (h : i ≤ n) (hf : foldS g i m = -1) : foldS g n m = -1 := by
  induction n with
  | zero => obtain rfl : i = 0 := by omega
            exact hf
  | succ n ih =>
    by_cases e : i = n + 1
    · subst e; exact hf
    · rw [foldS_succ, ih (by omega)]; rfl
theorem foldS_le {g : Nat → Int → Int} {m : Int} (hm : 0 ≤ m) (hg : ∀ i x, 0 ≤ x → g i x ≤ x) (n : Nat) : foldS g n m ≤ m := by
  induction n with
  | zero => exact Int.le_refl _
  | succ n ih =>
    rw [foldS_succ]
    split
    · omega
    · split
      · omega
      · have := hg n (foldS g n m) (by omega); omega
theorem shal_le (v : Val) : ∀ (deep many : Int), 0 ≤ many → shal v deep many ≤ many := by
  induction v with
  | no => intro deep many h; show (-1 : Int) ≤ many; omega
  | mk k t z r f a c n K ih =>
    intro deep many h
    unfold shal
    split
    · omega
    · have := foldS_le (g := fun i m => shal (K i) (deep - 1) m) (m := many - 1) (by omega) (fun i x hx => ih i _ _ hx) n
      omega
/-- A loop over a list in the world W: what has been made since. -/
theorem kid_facts {S : Nat → Prop} {w W wr : World} {a : Option Addr} {n : Nat} {K : Nat → Val} (hS : ∀ b, S b → b < w.heap.size) (hW : Below w.heap.size w W) (hb : Below W.heap.size W wr)
    (hadr : 0 < n → ∃ b o, a = some ⟨b, o, none⟩ ∧ S b) (hkids : ∀ i, i < n → (∀ b o, a = some ⟨b, o, none⟩ → At w b (o + i * 6) (K i)) ∧ Lies S w (K i)) {j : Nat} (hj : j < n) :
    ∃ b o, a = some ⟨b, o, none⟩ ∧ b < wr.heap.size ∧ At wr b (o + j * 6) (K j) ∧ Lies S wr (K j) ∧ ∀ b, S b → b < wr.heap.size := by
  obtain ⟨b, o, e, hs⟩ := hadr (by omega)
  have h := bstep hW hb
  exact ⟨b, o, e, Nat.lt_of_lt_of_le (hS b hs) h.size, ((hkids j hj).1 b o e).below h (hS b hs), (hkids j hj).2.below h hS, fun b hb => Nat.lt_of_lt_of_le (hS b hb) h.size⟩

set_option maxHeartbeats 2000000 in
theorem shallow_calls : ∀ (v : Val) (S : Nat → Prop) (w : World) (deep many : Int), (∀ b, S b → b < w.heap.size) → Lies S w v → -4611686018427387904 ≤ deep → deep ≤ 4611686018427387904 → -4611686018427387904 ≤ many → many ≤ 4611686018427387904 →
    Calls Tryz.prog 44 #[v.agg, .int .i64 deep, .int .i64 many] w fun e w' => e = .returned (.int .i64 (shal v deep many)) ∧ Below w.heap.size w w' := by
  intro v
  induction v with
  | no => exact fun _ _ _ _ _ hl => hl.elim
  | mk k t z r f a c n K ih =>
    intro S w deep many hS hl hd1 hd2 hm1 hm2
    obtain ⟨⟨-, -, -, -, -, -, hnc, hcm, hnm⟩, hadr, hkids⟩ := hl
    have hsh : shal (.mk k t z r f a c n K) deep many = if deep < 0 ∨ many < 1 then -1 else foldS (fun i m => shal (K i) (deep - 1) m) n (many - 1) := rfl
    rw [hsh]
    unfold Val.agg
    by_cases h1 : deep < 0
    · rw [if_pos (.inl h1)]
      clear hsh hadr hkids ih
      go_enter Tryz.func44, Tryz.ntmps44
      go_wp2_with fail
      go_ret
      exact ⟨rfl, (Below.refl _ _).alloc (Nat.le_refl _) _⟩
    by_cases h2 : many < 1
    · rw [if_pos (.inr h2)]
      have e1 : decide (deep < 0) = false := decide_eq_false h1
      clear hsh hadr hkids ih h1
      go_enter Tryz.func44, Tryz.ntmps44
      go_wp2_with fail
      go_ret
      exact ⟨rfl, (Below.refl _ _).alloc (Nat.le_refl _) _⟩
    rw [if_neg (by omega)]
    have e1 : decide (deep < 0) = false := decide_eq_false h1
    have e2 : decide (many < 1) = false := decide_eq_false h2
    have h3 : 0 ≤ deep := by omega
    have h4 : 1 ≤ many := by omega
    have hle := fun j => foldS_le (g := fun i m => shal (K i) (deep - 1) m) (m := many - 1) (by omega) (fun i x hx => shal_le (K i) _ _ hx) j
    have Hle := Lib.hid hle
    have Hadr := Lib.hid hadr
    have Hk := Lib.hid hkids
    have Hih := Lib.hid ih
    have HS := Lib.hid hS
    have HW : Hid (Below w.heap.size w (w.alloc (.cells #[.int .i64 k, .string t, .int .i64 z, .float .f64 r, .bool f, .slice a n c] 36))) := Lib.hid ((Below.refl _ _).alloc (Nat.le_refl _) _)
    clear hsh hadr hkids ih hS h1 h2 hle
    go_enter Tryz.func44, Tryz.ntmps44
    go_wp2_with fail
    generalize hW : w.alloc _ = W at *
    go_loopw [2, 20] (fun m i wr => ∃ j : Nat, j ≤ n ∧ i = .int .i64 j ∧ m = .int .i64 (foldS (fun i m => shal (K i) (deep - 1) m) j (many - 1)) ∧ 0 ≤ foldS (fun i m => shal (K i) (deep - 1) m) j (many - 1) ∧ Below W.heap.size W wr) (fun _ i _ => n - (intOf i).toNat)
    case atStart => exact ⟨0, by omega, rfl, rfl, by show (0 : Int) ≤ many - 1; omega, Below.refl _ _⟩
    case round =>
      obtain ⟨j, hj, rfl, rfl, hge, hb⟩ := hrel
      have hle := Hle.out j
      by_cases hlt : j < n
      · obtain ⟨b2, o2, rfl, hbs, hat, hls, hS2⟩ := kid_facts HS.out HW.out hb Hadr.out Hk.out hlt
        have hjn : j < c := by omega
        have hsucc := foldS_succ (fun i m => shal (K i) (deep - 1) m) j (many - 1)
        generalize hm : foldS (fun i m => shal (K i) (deep - 1) m) j (many - 1) = mj at *
        have hcall := fun W2 (h2 : Below wr.heap.size wr W2) => Hih.out j S W2 (deep - 1) mj (fun b hb => Nat.lt_of_lt_of_le (hS2 b hb) h2.size) (hls.below h2 hS2) (by omega) (by omega) (by omega) (by omega)
        have Hb := Lib.hid hb
        have Hm := Lib.hid hm
        generalize hK : K j = x at *
        cases x with
        | no => exact hat.elim
        | mk k2 t2 z2 r2 f2 a2 c2 n2 K2 =>
          obtain ⟨x0, x1, x2, x3, x4, x5⟩ := hat
          have Hcall : Hid (∀ W2, Below wr.heap.size wr W2 → Calls _ _ #[.agg #[.int .i64 k2, .string t2, .int .i64 z2, .float .f64 r2, .bool f2, .slice a2 n2 c2], _, _] _ _) := Lib.hid hcall
          have HK := Lib.hid hK
          have hpos : ¬ mj < 0 := by omega
          rw [if_neg hpos] at hsucc
          generalize hres : shal (.mk k2 t2 z2 r2 f2 a2 c2 n2 K2) (deep - 1) mj = res at *
          have Hs := Lib.hid hsucc
          have Hres := Lib.hid hres
          clear hb hm hK hcall hls hS2 hsucc hpos hres
          go_wp2_with fail
          refine (Hcall.out _ ((Below.refl _ _).alloc (Nat.le_refl _) _)).mono ?_; rintro en w3 ⟨rfl, hb3⟩
          have hb4 := bstep Hb.out (bstep ((Below.refl _ _).alloc (Nat.le_refl _) _) hb3)
          have Hb4 := Lib.hid hb4
          clear hb3 hb4
          by_cases hneg : res < 0
          · have hres1 := Hs.out
            rw [if_pos hneg] at hres1
            have Hr := Lib.hid hres1
            clear hres1
            go_wp2_with fail
            go_ret
            exact ⟨ret_i64 (foldS_neg (i := j + 1) (by omega) Hr.out).symm, bstep HW.out Hb4.out⟩
          · have hres1 := Hs.out
            rw [if_neg hneg] at hres1
            have Hr := Lib.hid hres1
            have hge : 0 ≤ res := by omega
            clear hres1 hneg
            go_wp2_with fail
            go_roundw
            case rel => exact ⟨j + 1, by omega, by go_num, by rw [Hr.out], by rw [Hr.out]; exact hge, Hb4.out⟩
            case measure => simp [intOf]; omega
      · obtain rfl : j = n := by omega
        have Hb := Lib.hid hb
        clear hb
        go_wp2_with fail
        go_ret
        exact ⟨rfl, bstep HW.out Hb.out⟩
end Go.Proofs.YtpmlhmdmnbmnnaaGreatDoor
/- The document's Small, Count, Lists and Depth of values. Conditions: of Count and Depth, that they fit. -/
namespace Go.Proofs.YtpmlhmdmnbmnnaaGreatDoor
open Go.ChangeShapes Go.WideShapes Go.ChangeAt Go.RowKit

def small (v : Val) : Bool := decide (0 ≤ shal v 30 3000)
theorem foldS_facts {K : Nat → Val} {deep : Int} (ih : ∀ i (d m : Int), 0 ≤ m → 0 ≤ shal (K i) d m → shal (K i) d m = m - (K i).count ∧ ((K i).nest : Int) ≤ d + 1) {m : Int} (_hm : 0 ≤ m) : ∀ n, 0 ≤ foldS (fun i m => shal (K i) deep m) n m →
    foldS (fun i m => shal (K i) deep m) n m = m - (sumTo (fun i => (K i).count) n : Nat) ∧ ∀ i, i < n → ((K i).nest : Int) ≤ deep + 1 := by
  intro n
  induction n with
  | zero => intro _; exact ⟨by show m = m - ((0 : Nat) : Int); omega, fun i hi => absurd hi (by omega)⟩
  | succ n hn =>
    intro h
    rw [foldS_succ] at h ⊢
    by_cases h1 : foldS (fun i m => shal (K i) deep m) n m < 0
    · rw [if_pos h1] at h; omega
    · rw [if_neg h1] at h ⊢
      by_cases h2 : shal (K n) deep (foldS (fun i m => shal (K i) deep m) n m) < 0
      · rw [if_pos h2] at h; omega
      · rw [if_neg h2]
        obtain ⟨e1, e2⟩ := hn (by omega)
        obtain ⟨e3, e4⟩ := ih n deep _ (by omega) (Int.not_lt.mp h2)
        refine ⟨?_, fun i hi => ?_⟩
        · rw [e3, e1, sumTo_succ]; omega
        · by_cases e : i = n
          · subst e; exact e4
          · exact e2 i (by omega)
theorem shal_facts (v : Val) : ∀ (d m : Int), 0 ≤ m → 0 ≤ shal v d m → shal v d m = m - v.count ∧ (v.nest : Int) ≤ d + 1 := by
  induction v with
  | no => intro d m _ h; exact absurd h (by show ¬ (0 : Int) ≤ -1; omega)
  | mk k t z r f a c n K ih =>
    intro d m hm h
    have e : shal (.mk k t z r f a c n K) d m = if d < 0 ∨ m < 1 then -1 else foldS (fun i m => shal (K i) (d - 1) m) n (m - 1) := rfl
    rw [e] at h ⊢
    by_cases h1 : d < 0 ∨ m < 1
    · rw [if_pos h1] at h; omega
    · rw [if_neg h1] at h ⊢
      obtain ⟨e1, e2⟩ := foldS_facts ih (m := m - 1) (by omega) n h
      refine ⟨?_, ?_⟩
      · rw [e1, count_eq]; omega
      · unfold Val.nest
        have : maxTo (fun i => (K i).nest) n ≤ d.toNat := by
          clear e1 h e
          induction n with
          | zero => exact Nat.zero_le _
          | succ n hn =>
            rw [maxTo_succ]
            have := e2 n (by omega)
            have := hn fun i hi => e2 i (by omega)
            omega
        omega
theorem small_facts {v : Val} (h : small v = true) : v.count ≤ 3000 ∧ v.nest ≤ 31 := by
  have h := of_decide_eq_true h
  obtain ⟨e1, e2⟩ := shal_facts v 30 3000 (by omega) h
  omega

set_option maxHeartbeats 1000000 in
theorem small_calls (v : Val) (S : Nat → Prop) (w : World) (hS : ∀ b, S b → b < w.heap.size) (hl : Lies S w v) :
    Calls Tryz.prog 21 #[v.agg] w fun e w' => e = .returned (.bool (small v)) ∧ Below w.heap.size w w' := by
  cases v with
  | no => exact hl.elim
  | mk k t z r f a c n K =>
    have hb : Below w.heap.size w (w.alloc (.cells #[.int .i64 k, .string t, .int .i64 z, .float .f64 r, .bool f, .slice a n c] 36)) := (Below.refl _ _).alloc (Nat.le_refl _) _
    have hcall := shallow_calls (.mk k t z r f a c n K) S _ 30 3000 (fun b hb2 => Nat.lt_of_lt_of_le (hS b hb2) hb.size) (hl.below hb hS) (by omega) (by omega) (by omega) (by omega)
    have Hcall : Hid (Calls _ _ #[.agg #[.int .i64 k, .string t, .int .i64 z, .float .f64 r, .bool f, .slice a n c], _, _] _ _) := Lib.hid hcall
    have HB := Lib.hid hb
    unfold small Val.agg
    clear hcall hb hl hS
    generalize shal (.mk k t z r f a c n K) 30 3000 = s at *
    go_enter Tryz.func21, Tryz.ntmps21
    go_wp2_with fail
    refine Hcall.out.mono ?_; rintro en w3 ⟨rfl, hb3⟩
    have Hb3 := Lib.hid (bstep HB.out hb3)
    clear hb3
    go_wp2_with fail
    go_ret
    exact ⟨rfl, Hb3.out⟩

set_option maxHeartbeats 2000000 in
theorem rcount_calls : ∀ (v : Val) (S : Nat → Prop) (w : World), (∀ b, S b → b < w.heap.size) → Lies S w v → v.count ≤ 1099511627776 →
    Calls Tryz.prog 47 #[v.agg] w fun e w' => e = .returned (.int .i64 v.count) ∧ Below w.heap.size w w' := by
  intro v
  induction v with
  | no => exact fun _ _ _ hl => hl.elim
  | mk k t z r f a c n K ih =>
    intro S w hS hl hc
    obtain ⟨⟨-, -, -, -, -, -, hnc, hcm, hnm⟩, hadr, hkids⟩ := hl
    have hC : ∀ i, i ≤ n → 1 + sumTo (fun i => (K i).count) i ≤ 1099511627776 := fun i hi => by
      unfold Val.count at hc
      have := sumTo_up (g := fun i => (K i).count) hi
      omega
    have HC := Lib.hid hC
    have HCt : Hid (Val.count (.mk k t z r f a c n K) = 1 + sumTo (fun i => (K i).count) n) := Lib.hid rfl
    have Hadr := Lib.hid hadr
    have Hk := Lib.hid hkids
    have Hih := Lib.hid ih
    have HS := Lib.hid hS
    have HW : Hid (Below w.heap.size w (w.alloc (.cells #[.int .i64 k, .string t, .int .i64 z, .float .f64 r, .bool f, .slice a n c] 36))) := Lib.hid ((Below.refl _ _).alloc (Nat.le_refl _) _)
    generalize Val.count (.mk k t z r f a c n K) = tot at *
    unfold Val.agg
    clear hadr hkids ih hS hC hc
    go_enter Tryz.func47, Tryz.ntmps47
    go_wp2_with fail
    generalize hW : w.alloc _ = W at *
    go_loopw [3, 9] (fun m i wr => ∃ j : Nat, j ≤ n ∧ i = .int .i64 j ∧ m = .int .i64 ((1 + sumTo (fun i => (K i).count) j : Nat) : Int) ∧ Below W.heap.size W wr) (fun _ i _ => n - (intOf i).toNat)
    case atStart => exact ⟨0, by omega, rfl, rfl, Below.refl _ _⟩
    case round =>
      obtain ⟨j, hj, rfl, rfl, hb⟩ := hrel
      by_cases hlt : j < n
      · obtain ⟨b2, o2, rfl, hbs, hat, hls, hS2⟩ := kid_facts HS.out HW.out hb Hadr.out Hk.out hlt
        have hjn : j < c := by omega
        have hcs := HC.out (j + 1) (by omega)
        rw [sumTo_succ] at hcs
        have hcall := fun W2 (h2 : Below wr.heap.size wr W2) => Hih.out j S W2 (fun b hb => Nat.lt_of_lt_of_le (hS2 b hb) h2.size) (hls.below h2 hS2) (by omega)
        have Hb := Lib.hid hb
        have hb1 : (1 : Int) ≤ 1 + (sumTo (fun i => (K i).count) j : Nat) := by omega
        have Hss := Lib.hid (sumTo_succ (fun i => (K i).count) j)
        generalize hK : K j = x at *
        cases x with
        | no => exact hat.elim
        | mk k2 t2 z2 r2 f2 a2 c2 n2 K2 =>
          obtain ⟨x0, x1, x2, x3, x4, x5⟩ := hat
          generalize hq : (Val.mk k2 t2 z2 r2 f2 a2 c2 n2 K2).count = q at *
          have Hcall : Hid (∀ W2, Below wr.heap.size wr W2 → Calls _ _ #[.agg #[.int .i64 k2, .string t2, .int .i64 z2, .float .f64 r2, .bool f2, .slice a2 n2 c2]] _ _) := Lib.hid hcall
          have HK := Lib.hid hK
          have Hq := Lib.hid hq
          clear hb hK hcall hls hS2 hq
          go_wp2_with fail
          refine (Hcall.out _ ((Below.refl _ _).alloc (Nat.le_refl _) _)).mono ?_; rintro en w3 ⟨rfl, hb3⟩
          have hb4 := bstep Hb.out (bstep ((Below.refl _ _).alloc (Nat.le_refl _) _) hb3)
          have Hb4 := Lib.hid hb4
          clear hb3 hb4
          go_wp2_with fail
          go_roundw
          case rel => exact ⟨j + 1, by omega, by go_num, by rw [Hss.out]; go_num, Hb4.out⟩
          case measure => simp [intOf]; omega
      · obtain rfl : j = n := by omega
        have Hb := Lib.hid hb
        clear hb
        go_wp2_with fail
        go_ret
        exact ⟨ret_i64 (by have := HCt.out; omega), bstep HW.out Hb.out⟩

theorem rlists_calls (k : Int) (w : World) : Calls Tryz.prog 65 #[.int .i64 k] w fun e w' => e = .returned (.bool (lists k)) ∧ w = w' := by
  by_cases h1 : k = 5
  · subst h1
    go_enter Tryz.func65, Tryz.ntmps65
    go_wp2
    go_ret
    exact ⟨rfl, rfl⟩
  have e1 : (k == 5) = false := by simpa using h1
  by_cases h2 : 12 ≤ k
  · by_cases h3 : k ≤ 14
    · have he : lists k = true := by
        rcases (show k = 12 ∨ k = 13 ∨ k = 14 by omega) with rfl | rfl | rfl <;> rfl
      rw [he]
      clear he h1
      go_enter Tryz.func65, Tryz.ntmps65
      go_wp2
      go_ret
      exact ⟨rfl, rfl⟩
    · have he : lists k = false := by unfold lists; rw [e1]; simp; omega
      rw [he]
      clear he h1
      go_enter Tryz.func65, Tryz.ntmps65
      go_wp2
      go_ret
      exact ⟨rfl, rfl⟩
  · have he : lists k = false := by unfold lists; rw [e1]; simp; omega
    rw [he]
    clear he h1
    go_enter Tryz.func65, Tryz.ntmps65
    go_wp2
    go_ret
    exact ⟨rfl, rfl⟩

set_option maxHeartbeats 2000000 in
theorem rdepth_calls : ∀ (v : Val) (S : Nat → Prop) (w : World), (∀ b, S b → b < w.heap.size) → Lies S w v → v.nest ≤ 65536 →
    Calls Tryz.prog 46 #[v.agg] w fun e w' => e = .returned (.int .i64 v.depth) ∧ Below w.heap.size w w' := by
  intro v
  induction v with
  | no => exact fun _ _ _ hl => hl.elim
  | mk k t z r f a c n K ih =>
    intro S w hS hl hn
    obtain ⟨⟨-, -, -, -, -, -, hnc, hcm, hnm⟩, hadr, hkids⟩ := hl
    have hN : ∀ i, i < n → (K i).nest ≤ 65536 := fun i hi => by
      unfold Val.nest at hn
      have := maxTo_le (g := fun i => (K i).nest) hi
      omega
    have hD : ∀ i, i ≤ n → maxTo (fun i => (K i).depth) i ≤ 65536 := fun i hi => by
      have h1 := maxTo_mono (n := i) fun j _ => depth_le_nest (K j)
      have h2 := maxTo_up (g := fun i => (K i).nest) hi
      unfold Val.nest at hn
      omega
    have hT : Val.depth (.mk k t z r f a c n K) = if lists k then 1 + maxTo (fun i => (K i).depth) n else 0 := rfl
    have HL := Lib.hid (rlists_calls k)
    have HN := Lib.hid hN
    have HD := Lib.hid hD
    have Hadr := Lib.hid hadr
    have Hk := Lib.hid hkids
    have Hih := Lib.hid ih
    have HS := Lib.hid hS
    have HW : Hid (Below w.heap.size w (w.alloc (.cells #[.int .i64 k, .string t, .int .i64 z, .float .f64 r, .bool f, .slice a n c] 36))) := Lib.hid ((Below.refl _ _).alloc (Nat.le_refl _) _)
    generalize Val.depth (.mk k t z r f a c n K) = tot at *
    unfold Val.agg
    clear hadr hkids ih hS hN hD hn
    cases hk : lists k with
    | false =>
      rw [hk] at HL hT
      have HT : Hid (tot = 0) := Lib.hid hT
      clear hk hT
      go_enter Tryz.func46, Tryz.ntmps46
      go_wp2_with fail
      refine (HL.out _).mono ?_; rintro en w' ⟨rfl, rfl⟩
      go_wp2_with fail
      go_ret
      exact ⟨ret_i64 (by have := HT.out; omega), HW.out⟩
    | true =>
      rw [hk] at HL hT
      have HT : Hid (tot = 1 + maxTo (fun i => (K i).depth) n) := Lib.hid hT
      clear hk hT
      go_enter Tryz.func46, Tryz.ntmps46
      go_wp2_with fail
      refine (HL.out _).mono ?_; rintro en w' ⟨rfl, rfl⟩
      go_wp2_with fail
      generalize hW : w.alloc _ = W at *
      go_loopw [3, 14] (fun m i wr => ∃ j : Nat, j ≤ n ∧ i = .int .i64 j ∧ m = .int .i64 ((1 + maxTo (fun i => (K i).depth) j : Nat) : Int) ∧ Below W.heap.size W wr) (fun _ i _ => n - (intOf i).toNat)
      case atStart => exact ⟨0, by omega, rfl, rfl, Below.refl _ _⟩
      case round =>
        obtain ⟨j, hj, rfl, rfl, hb⟩ := hrel
        by_cases hlt : j < n
        · obtain ⟨b2, o2, rfl, hbs, hat, hls, hS2⟩ := kid_facts HS.out HW.out hb Hadr.out Hk.out hlt
          have hjn : j < c := by omega
          have hcs := HD.out (j + 1) (by omega)
          rw [maxTo_succ] at hcs
          have hcall := fun W2 (h2 : Below wr.heap.size wr W2) => Hih.out j S W2 (fun b hb => Nat.lt_of_lt_of_le (hS2 b hb) h2.size) (hls.below h2 hS2) (HN.out j hlt)
          have Hb := Lib.hid hb
          have Hss := Lib.hid (maxTo_succ (fun i => (K i).depth) j)
          generalize hK : K j = x at *
          cases x with
          | no => exact hat.elim
          | mk k2 t2 z2 r2 f2 a2 c2 n2 K2 =>
            obtain ⟨x0, x1, x2, x3, x4, x5⟩ := hat
            generalize hq : (Val.mk k2 t2 z2 r2 f2 a2 c2 n2 K2).depth = q at *
            generalize hp : maxTo (fun i => (K i).depth) j = p at *
            have Hcall : Hid (∀ W2, Below wr.heap.size wr W2 → Calls _ _ #[.agg #[.int .i64 k2, .string t2, .int .i64 z2, .float .f64 r2, .bool f2, .slice a2 n2 c2]] _ _) := Lib.hid hcall
            have HK := Lib.hid hK
            have Hq := Lib.hid hq
            have Hp := Lib.hid hp
            have hq1 : q ≤ 65536 := by omega
            have hp1 : p ≤ 65536 := by omega
            clear hb hK hcall hls hS2 hq hp
            go_wp2_with fail
            refine (Hcall.out _ ((Below.refl _ _).alloc (Nat.le_refl _) _)).mono ?_; rintro en w3 ⟨rfl, hb3⟩
            have hb4 := bstep Hb.out (bstep ((Below.refl _ _).alloc (Nat.le_refl _) _) hb3)
            have Hb4 := Lib.hid hb4
            clear hb3 hb4
            by_cases hgt : p < q
            · go_wp2_with fail
              go_roundw
              case rel => exact ⟨j + 1, by omega, by go_num, by rw [Hss.out, Nat.max_eq_right (by omega)]; go_num, Hb4.out⟩
              case measure => simp [intOf]; omega
            · go_wp2_with fail
              go_roundw
              case rel => exact ⟨j + 1, by omega, by go_num, by rw [Hss.out, Nat.max_eq_left (by omega)]; go_num, Hb4.out⟩
              case measure => simp [intOf]; omega
        · obtain rfl : j = n := by omega
          have Hb := Lib.hid hb
          clear hb
          go_wp2_with fail
          go_ret
          exact ⟨ret_i64 (by have := HT.out; omega), bstep HW.out Hb.out⟩
end Go.Proofs.YtpmlhmdmnbmnnaaGreatDoor
