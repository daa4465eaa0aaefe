/- The walk of the law ValueSame: true, at any two values and any text. Conditions: texts within the reach (which the form asks). -/
import Derived.Test.YthngmmdfidhhpaaDoorVf1
import Derived.Test.YthngmmdfidhhpaaDoorVopen
namespace Go.Proofs.YthngmmdfidhhpaaDoor
open Go.ChangeShapes Go.WideShapes Go.ChangeAt Go.RowKit

def kidAB (x y : Val) : Nat → Val := fun i => if i = 0 then x else y
theorem row2_facts (w : World) (k k' : Int) (t t' : ByteArray) (z z' : Int) (r r' : Nat) (f f' : Bool) (a a' : Option Addr) (c c' n n' : Nat) (K K' : Nat → Val) :
    Below w.heap.size w (w.alloc (.cells #[.int .i64 k, .string t, .int .i64 z, .float .f64 r, .bool f, .slice a n c, .int .i64 k', .string t', .int .i64 z', .float .f64 r', .bool f', .slice a' n' c'] 25)) ∧
    (w.alloc (.cells #[.int .i64 k, .string t, .int .i64 z, .float .f64 r, .bool f, .slice a n c, .int .i64 k', .string t', .int .i64 z', .float .f64 r', .bool f', .slice a' n' c'] 25)).heap.size = w.heap.size + 1 ∧
    At (w.alloc (.cells #[.int .i64 k, .string t, .int .i64 z, .float .f64 r, .bool f, .slice a n c, .int .i64 k', .string t', .int .i64 z', .float .f64 r', .bool f', .slice a' n' c'] 25)) w.heap.size 0 (.mk k t z r f a c n K) ∧
    At (w.alloc (.cells #[.int .i64 k, .string t, .int .i64 z, .float .f64 r, .bool f, .slice a n c, .int .i64 k', .string t', .int .i64 z', .float .f64 r', .bool f', .slice a' n' c'] 25)) w.heap.size 6 (.mk k' t' z' r' f' a' c' n' K') := by
  refine ⟨(Below.refl _ _).alloc (Nat.le_refl _) _, by simp, ⟨?_, ?_, ?_, ?_, ?_, ?_⟩, ⟨?_, ?_, ?_, ?_, ?_, ?_⟩⟩ <;> go_simp
theorem lies_row2 {S : Nat → Prop} {w : World} {b : Nat} {x y : Val} (hb : S b) (h0 : At w b 0 x) (h1 : At w b 6 y) (hx : Lies S w x) (hy : Lies S w y) : Lies S w (.mk 5 ⟨#[]⟩ 0 0 false (some ⟨b, 0, none⟩) 2 2 (kidAB x y)) := by
  refine ⟨by decide, fun _ => ⟨b, 0, rfl, hb⟩, fun i hi => ⟨fun b2 o2 e => ?_, ?_⟩⟩
  · injection e with e
    injection e with e1 e2
    subst e1 e2
    rcases (show i = 0 ∨ i = 1 by omega) with rfl | rfl
    · exact h0
    · exact h1
  · rcases (show i = 0 ∨ i = 1 by omega) with rfl | rfl
    · exact hx
    · exact hy
/-- What the walk reads of the list of two that List made. -/
theorem made2 {W w : World} {e : Ending} {b : Nat} {x y : Val} (h : Copied (.mk 5 ⟨#[]⟩ 0 0 false (some ⟨b, 0, none⟩) 2 2 (kidAB x y)) W e w) : ∃ B C x' y', e = .returned (.agg #[.int .i64 5, .string ⟨#[]⟩, .int .i64 0, .float .f64 0, .bool false, .slice (some ⟨B, 0, none⟩) 2 C]) ∧
    Below W.heap.size W w ∧ B < w.heap.size ∧ W.heap.size ≤ B ∧ 2 ≤ C ∧ At w B 0 x' ∧ At w B 6 y' ∧ Twin x x' ∧ Twin y y' ∧ Lies (fun b => W.heap.size ≤ b ∧ b < w.heap.size) w x' ∧ Lies (fun b => W.heap.size ≤ b ∧ b < w.heap.size) w y' := by
  obtain ⟨v', rfl, ⟨a', c', K', rfl, hk⟩, hb, hl, hn⟩ := h
  obtain ⟨B, rfl, hlo, -, -⟩ := hn (by omega)
  obtain ⟨h9, h1, h2⟩ := hl
  obtain ⟨b2, o2, e, hB⟩ := h1 (by omega)
  injection e with e
  injection e with e1 e2
  subst e1 e2
  exact ⟨B, c', K' 0, K' 1, rfl, hb, hB.2, hlo, h9.2.2.2.2.2.2.1, (h2 0 (by omega)).1 _ _ rfl, (h2 1 (by omega)).1 _ _ rfl, hk 0 (by omega), hk 1 (by omega),
    (h2 0 (by omega)).2, (h2 1 (by omega)).2⟩
theorem Twin.slim {v : Val} : ∀ {v' : Val}, Twin v v' → v.slim → v'.slim := by
  induction v with
  | no => exact fun h => h.elim
  | mk k t z r f a c n K ih =>
    rintro v' ⟨a', c', K', rfl, hk⟩ ⟨h1, h2⟩
    exact ⟨h1, fun i hi => ih i (hk i hi) (h2 i hi)⟩
/-- A value's text put in the place of its own. -/
def Val.text (v : Val) (s : ByteArray) : Val := match v with
  | .no => .no
  | .mk k _ z r f a c n K => .mk k s z r f a c n K
/-- A copy whose first part has another text: it lies there, and is not the same. -/
theorem turned {w0 w1 w : World} {v : Val} {k : Int} {t : ByteArray} {z : Int} {r : Nat} {f : Bool} {a : Option Addr} {c n : Nat} {K : Nat → Val} (ht : Twin v (.mk k t z r f a c n K)) (hnew : New w0.heap.size w1 (.mk k t z r f a c n K)) (hb : Below w1.heap.size w1 w) (hn : 0 < n) (hs : v.slim) :
    ∃ B k2 t2 z2 r2 f2 a2 c2 n2 K2, a = some ⟨B, 0, none⟩ ∧ w0.heap.size ≤ B ∧ B < w1.heap.size ∧ n ≤ c ∧ t2.size ≤ 140737488351232 ∧ w.cell? ⟨B, 1, none⟩ = some (.string t2) ∧ w.frozen? ⟨B, 1, none⟩ = false ∧ K 0 = .mk k2 t2 z2 r2 f2 a2 c2 n2 K2 ∧
      ∀ s : ByteArray, s.size ≤ 140737488351233 → s ≠ t2 → Lies (fun b => b < w1.heap.size) (w.setCell ⟨B, 1, none⟩ (.string s)) (.mk k t z r f a c n fun i => if i = 0 then (K 0).text s else K i) ∧
        same v (.mk k t z r f a c n fun i => if i = 0 then (K 0).text s else K i) = false := by
  obtain ⟨hl, hk⟩ := hnew
  obtain ⟨B, rfl, hlo, hfr, hin⟩ := hk hn
  obtain ⟨h9, h1, h2⟩ := hl
  obtain ⟨b2, o2, e, hB⟩ := h1 hn
  injection e with e
  injection e with e1 e2
  subst e1 e2
  have hlt : ∀ b, b < w1.heap.size → ∀ o, w.cell? ⟨b, o, none⟩ = w1.cell? ⟨b, o, none⟩ := fun b hb2 o => hb.cell (p := ⟨b, o, none⟩) hb2
  have hat := (h2 0 hn).1 _ _ rfl
  have hl0 := hin 0 hn
  have hsl := (ht.slim hs).2 0 hn
  cases h0 : K 0 with
  | no => rw [h0] at hl0; exact hl0.elim
  | mk k2 t2 z2 r2 f2 a2 c2 n2 K2 =>
    rw [h0] at hat hl0 hsl
    have hc1 : w.cell? ⟨B, 1, none⟩ = some (.string t2) := (hlt B hB.2 1).trans hat.2.1
    refine ⟨B, k2, t2, z2, r2, f2, a2, c2, n2, K2, rfl, hlo, hB.2, h9.2.2.2.2.2.2.1, hsl.1, hc1, ((hb.frozen (p := ⟨B, 1, none⟩) hB.2).trans (hfr 1 (by omega))), rfl, fun s hss hne => ⟨⟨h9, fun _ => ⟨B, 0, rfl, hB.2⟩, fun i hi => ⟨fun b o e => ?_, ?_⟩⟩, ?_⟩⟩
    · injection e with e
      injection e with e1 e2
      subst e1 e2
      have ho : ∀ q, q ≠ 1 → (w.setCell ⟨B, 1, none⟩ (.string s)).cell? ⟨B, q, none⟩ = w1.cell? ⟨B, q, none⟩ := fun q hq => (World.cell?_setCell_other _ _ _ _ (addr_ne (.inr (Ne.symm hq)))).trans (hlt B hB.2 q)
      by_cases e0 : i = 0
      · subst e0
        obtain ⟨x0, -, x2, x3, x4, x5⟩ := hat
        exact ⟨(ho _ (by omega)).trans x0, World.cell?_setCell_same w _ _ hc1, (ho _ (by omega)).trans x2, (ho _ (by omega)).trans x3, (ho _ (by omega)).trans x4, (ho _ (by omega)).trans x5⟩
      · dsimp only
        rw [if_neg e0]
        have hi := (h2 i hi).1 _ _ rfl
        cases hK : K i with
        | no => rw [hK] at hi; exact hi.elim
        | mk k3 t3 z3 r3 f3 a3 c3 n3 K3 =>
          rw [hK] at hi
          obtain ⟨x0, x1, x2, x3, x4, x5⟩ := hi
          exact ⟨(ho _ (by omega)).trans x0, (ho _ (by omega)).trans x1, (ho _ (by omega)).trans x2, (ho _ (by omega)).trans x3, (ho _ (by omega)).trans x4, (ho _ (by omega)).trans x5⟩
    · have hkeep : ∀ u : Val, Lies (fun x => B < x ∧ x < w1.heap.size) w1 u → Lies (fun b => b < w1.heap.size) (w.setCell ⟨B, 1, none⟩ (.string s)) u := fun u hu =>
        hu.keep fun b hb2 => ⟨hb2.2, fun o => (World.cell?_setCell_other _ _ _ _ (addr_ne (.inl (by omega)))).trans (hlt b hb2.2 o)⟩
      by_cases e0 : i = 0
      · dsimp only
        rw [if_pos e0]
        have hk := hkeep _ hl0
        obtain ⟨⟨q0, q1, q2, q3, q4, q5, q6, q7⟩, q8, q9⟩ := hk
        exact ⟨⟨q0, q1, by omega, q3, q4, q5, q6, q7⟩, q8, q9⟩
      · dsimp only
        rw [if_neg e0]
        exact hkeep _ (hin i hi)
    · cases v with
      | no => exact ht.elim
      | mk k' t' z' r' f' a' c' n' K' =>
        obtain ⟨_, _, _, e, hkk⟩ := ht
        injection e with e1 e2 e3 e4 e5 e6 e7 e8 e9
        subst e1 e2 e3 e4 e5 e8 e9
        rw [same_kids rfl]
        refine allTo_false hn ?_
        have h00 := hkk 0 hn
        rw [h0] at h00
        cases hq : K' 0 with
        | no => rw [hq] at h00; exact h00.elim
        | mk k4 t4 z4 r4 f4 a4 c4 n4 K4 =>
          rw [hq] at h00
          obtain ⟨_, _, _, e, -⟩ := h00
          injection e with e1 e2
          subst e2
          exact same_root fun h => hne h.2.1.symm
theorem longer {t : ByteArray} : (t ++ ⟨#[120]⟩ : ByteArray) ≠ t := by
  intro h
  have := congrArg ByteArray.size h
  rw [ByteArray.size_append] at this
  have e : (⟨#[120]⟩ : ByteArray).size = 1 := rfl
  omega
theorem longer_size {t : ByteArray} : (t ++ ⟨#[120]⟩ : ByteArray).size = t.size + 1 := by
  rw [ByteArray.size_append]; rfl
end Go.Proofs.YthngmmdfidhhpaaDoor
