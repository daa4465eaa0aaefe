/- The document's Shallow, Small and Count of values. Conditions: bounds of the numbers; of Count, that it fits. -/
import Derived.Test.YtiigfcggdjcmfaaDoorVd1
namespace Go.Proofs.YtiigfcggdjcmfaaDoor
open Go.ChangeShapes Go.WideShapes Go.ChangeAt Go.RowKit

def foldS (g : Nat → Int → Int) : Nat → Int → Int
  | 0, m => m
  | i + 1, m => if foldS g i m < 0 then -1 else if g i (foldS g i m) < 0 then -1 else g i (foldS g i m)
def shal : Val → Int → Int → Int
  | .no, _, _ => -1
  | .mk _ _ _ _ _ _ _ n K, deep, many => if deep < 0 ∨ many < 1 then -1 else foldS (fun i m => shal (K i) (deep - 1) m) n (many - 1)
theorem foldS_succ (g : Nat → Int → Int) (i : Nat) (m : Int) : foldS g (i + 1) m = if foldS g i m < 0 then -1 else if g i (foldS g i m) < 0 then -1 else g i (foldS g i m) := rfl
theorem foldS_neg {g : Nat → Int → Int} {m : Int} {i n : Nat} (h : i ≤ n) (hf : foldS g i m = -1) : foldS g n m = -1 := by
  induction n with
  | zero => obtain rfl : i = 0 := by omega
            exact hf
  | succ n ih =>
    by_cases e : i = n + 1
    · subst e; exact hf
    · rw [foldS_succ, ih (by omega)]; rfl
theorem foldS_le {g : Nat → Int → Int} {m : Int} (hm : 0 ≤ m) (hg : ∀ i x, 0 ≤ x → g i x ≤ x) (n : Nat) : foldS g n m ≤ m := by
  induction n with
  | zero => exact Int.le_refl _
  | succ n ih =>
    rw [foldS_succ]
    split
    · omega
    · split
      · omega
      · have := hg n (foldS g n m) (by omega); omega
theorem shal_le (v : Val) : ∀ (deep many : Int), 0 ≤ many → shal v deep many ≤ many := by
  induction v with
  | no => intro deep many h; show (-1 : Int) ≤ many; omega
  | mk k t z r f a c n K ih =>
    intro deep many h
    unfold shal
    split
    · omega
    · have := foldS_le (g := fun i m => shal (K i) (deep - 1) m) (m := many - 1) (by omega) (fun i x hx => ih i _ _ hx) n
      omega
/-- A loop over a list in the world W: what has been made since. -/
theorem kid_facts {S : Nat → Prop} {w W wr : World} {a : Option Addr} {n : Nat} {K : Nat → Val} (hS : ∀ b, S b → b < w.heap.size) (hW : Below w.heap.size w W) (hb : Below W.heap.size W wr)
    (hadr : 0 < n → ∃ b o, a = some ⟨b, o, none⟩ ∧ S b) (hkids : ∀ i, i < n → (∀ b o, a = some ⟨b, o, none⟩ → At w b (o + i * 6) (K i)) ∧ Lies S w (K i)) {j : Nat} (hj : j < n) :
    ∃ b o, a = some ⟨b, o, none⟩ ∧ b < wr.heap.size ∧ At wr b (o + j * 6) (K j) ∧ Lies S wr (K j) ∧ ∀ b, S b → b < wr.heap.size := by
  obtain ⟨b, o, e, hs⟩ := hadr (by omega)
  have h := bstep hW hb
  exact ⟨b, o, e, Nat.lt_of_lt_of_le (hS b hs) h.size, ((hkids j hj).1 b o e).below h (hS b hs), (hkids j hj).2.below h hS, fun b hb => Nat.lt_of_lt_of_le (hS b hb) h.size⟩

set_option maxHeartbeats 2000000 in
theorem shallow_calls : ∀ (v : Val) (S : Nat → Prop) (w : World) (deep many : Int), (∀ b, S b → b < w.heap.size) → Lies S w v → -4611686018427387904 ≤ deep → deep ≤ 4611686018427387904 → -4611686018427387904 ≤ many → many ≤ 4611686018427387904 →
    Calls Tryd.prog 24 #[v.agg, .int .i64 deep, .int .i64 many] w fun e w' => e = .returned (.int .i64 (shal v deep many)) ∧ Below w.heap.size w w' := by
  intro v
  induction v with
  | no => exact fun _ _ _ _ _ hl => hl.elim
  | mk k t z r f a c n K ih =>
    intro S w deep many hS hl hd1 hd2 hm1 hm2
    obtain ⟨⟨-, -, -, -, -, -, hnc, hcm, hnm⟩, hadr, hkids⟩ := hl
    have hsh : shal (.mk k t z r f a c n K) deep many = if deep < 0 ∨ many < 1 then -1 else foldS (fun i m => shal (K i) (deep - 1) m) n (many - 1) := rfl
    rw [hsh]
    unfold Val.agg
    by_cases h1 : deep < 0
    · rw [if_pos (.inl h1)]
      clear hsh hadr hkids ih
      go_enter Tryd.func24, Tryd.ntmps24
      go_wp2_with fail
      go_ret
      exact ⟨rfl, (Below.refl _ _).alloc (Nat.le_refl _) _⟩
    by_cases h2 : many < 1
    · rw [if_pos (.inr h2)]
      have e1 : decide (deep < 0) = false := decide_eq_false h1
      clear hsh hadr hkids ih h1
      go_enter Tryd.func24, Tryd.ntmps24
      go_wp2_with fail
      go_ret
      exact ⟨rfl, (Below.refl _ _).alloc (Nat.le_refl _) _⟩
    rw [if_neg (by omega)]
    have e1 : decide (deep < 0) = false := decide_eq_false h1
    have e2 : decide (many < 1) = false := decide_eq_false h2
    have h3 : 0 ≤ deep := by omega
    have h4 : 1 ≤ many := by omega
    have hle := fun j => foldS_le (g := fun i m => shal (K i) (deep - 1) m) (m := many - 1) (by omega) (fun i x hx => shal_le (K i) _ _ hx) j
    have Hle := Lib.hid hle
    have Hadr := Lib.hid hadr
    have Hk := Lib.hid hkids
    have Hih := Lib.hid ih
    have HS := Lib.hid hS
    have HW : Hid (Below w.heap.size w (w.alloc (.cells #[.int .i64 k, .string t, .int .i64 z, .float .f64 r, .bool f, .slice a n c] 25))) := Lib.hid ((Below.refl _ _).alloc (Nat.le_refl _) _)
    clear hsh hadr hkids ih hS h1 h2 hle
    go_enter Tryd.func24, Tryd.ntmps24
    go_wp2_with fail
    generalize hW : w.alloc _ = W at *
    go_loopw [2, 20] (fun m i wr => ∃ j : Nat, j ≤ n ∧ i = .int .i64 j ∧ m = .int .i64 (foldS (fun i m => shal (K i) (deep - 1) m) j (many - 1)) ∧ 0 ≤ foldS (fun i m => shal (K i) (deep - 1) m) j (many - 1) ∧ Below W.heap.size W wr) (fun _ i _ => n - (intOf i).toNat)
    case atStart => exact ⟨0, by omega, rfl, rfl, by show (0 : Int) ≤ many - 1; omega, Below.refl _ _⟩
    case round =>
      obtain ⟨j, hj, rfl, rfl, hge, hb⟩ := hrel
      have hle := Hle.out j
      by_cases hlt : j < n
      · obtain ⟨b2, o2, rfl, hbs, hat, hls, hS2⟩ := kid_facts HS.out HW.out hb Hadr.out Hk.out hlt
        have hjn : j < c := by omega
        have hsucc := foldS_succ (fun i m => shal (K i) (deep - 1) m) j (many - 1)
        generalize hm : foldS (fun i m => shal (K i) (deep - 1) m) j (many - 1) = mj at *
        have hcall := fun W2 (h2 : Below wr.heap.size wr W2) => Hih.out j S W2 (deep - 1) mj (fun b hb => Nat.lt_of_lt_of_le (hS2 b hb) h2.size) (hls.below h2 hS2) (by omega) (by omega) (by omega) (by omega)
        have Hb := Lib.hid hb
        have Hm := Lib.hid hm
        generalize hK : K j = x at *
        cases x with
        | no => exact hat.elim
        | mk k2 t2 z2 r2 f2 a2 c2 n2 K2 =>
          obtain ⟨x0, x1, x2, x3, x4, x5⟩ := hat
          have Hcall : Hid (∀ W2, Below wr.heap.size wr W2 → Calls _ _ #[.agg #[.int .i64 k2, .string t2, .int .i64 z2, .float .f64 r2, .bool f2, .slice a2 n2 c2], _, _] _ _) := Lib.hid hcall
          have HK := Lib.hid hK
          have hpos : ¬ mj < 0 := by omega
          rw [if_neg hpos] at hsucc
          generalize hres : shal (.mk k2 t2 z2 r2 f2 a2 c2 n2 K2) (deep - 1) mj = res at *
          have Hs := Lib.hid hsucc
          have Hres := Lib.hid hres
          clear hb hm hK hcall hls hS2 hsucc hpos hres
          go_wp2_with fail
          refine (Hcall.out _ ((Below.refl _ _).alloc (Nat.le_refl _) _)).mono ?_; rintro en w3 ⟨rfl, hb3⟩
          have hb4 := bstep Hb.out (bstep ((Below.refl _ _).alloc (Nat.le_refl _) _) hb3)
          have Hb4 := Lib.hid hb4
          clear hb3 hb4
          by_cases hneg : res < 0
          · have hres1 := Hs.out
            rw [if_pos hneg] at hres1
            have Hr := Lib.hid hres1
            clear hres1
            go_wp2_with fail
            go_ret
            exact ⟨ret_i64 (foldS_neg (i := j + 1) (by omega) Hr.out).symm, bstep HW.out Hb4.out⟩
          · have hres1 := Hs.out
            rw [if_neg hneg] at hres1
            have Hr := Lib.hid hres1
            have hge : 0 ≤ res := by omega
            clear hres1 hneg
            go_wp2_with fail
            go_roundw
            case rel => exact ⟨j + 1, by omega, by go_num, by rw [Hr.out], by rw [Hr.out]; exact hge, Hb4.out⟩
            case measure => simp [intOf]; omega
      · obtain rfl : j = n := by omega
        have Hb := Lib.hid hb
        clear hb
        go_wp2_with fail
        go_ret
        exact ⟨rfl, bstep HW.out Hb.out⟩
end Go.Proofs.YtiigfcggdjcmfaaDoor
