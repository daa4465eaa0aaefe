/- Plain facts, of no program: the shortest digits that the library's shortFloat finds rise strictly as the numbers do, so unlike numbers have unlike digits. Held against the pinned table of powers alone. No condition. -/
import Derived.Test.YtlebpaneignfaaaDoorFe4
namespace Go.Proofs.YtlebpaneignfaaaDoor.Sh
open Go
/-- What stands exactly: x times the power, with what is below its last word cut up. -/
def gee (x hi lo : Nat) : Nat := x * hi - x * lo / 18446744073709551616
def you (N g : Nat) : Nat := if 1 < g % N then (g / N) ||| 1 else g / N
theorem or1 (a : Nat) : a ||| 1 = a + (1 - a % 2) := by
  have h1 : (a ||| 1) % 2 = 1 := by
    have h := Nat.or_mod_two_pow (a := a) (b := 1) (n := 1)
    rw [show 2 ^ 1 = 2 from rfl] at h
    rw [h]
    rcases Nat.mod_two_eq_zero_or_one a with e | e <;> rw [e] <;> rfl
  have h2 : (a ||| 1) / 2 = a / 2 := by
    have := Nat.or_div_two (a := a) (b := 1)
    simpa using this
  omega
theorem you_lo (N g : Nat) : g / N ≤ you N g := by
  unfold you
  split
  · rw [or1]; omega
  · exact Nat.le_refl _
theorem you_hi (N g : Nat) : you N g ≤ g / N + 1 := by
  unfold you
  split
  · rw [or1]; omega
  · omega
theorem you_mono {N g h : Nat} (hgh : g ≤ h) : you N g ≤ you N h := by
  have hd : g / N ≤ h / N := Nat.div_le_div_right hgh
  by_cases e : g / N = h / N
  · have h1 := Nat.div_add_mod g N
    have h2 := Nat.div_add_mod h N
    rw [← e] at h2
    have hm : g % N ≤ h % N := by omega
    unfold you
    rw [← e]
    split
    · rw [if_pos (by omega)]; exact Nat.le_refl _
    · split
      · rw [or1]; omega
      · exact Nat.le_refl _
  · have hlt : g / N < h / N := by omega
    have h1 := you_lo N h
    unfold you at h1 ⊢
    split
    · rw [or1]
      by_cases hp : g / N % 2 = 1
      · split <;> (try rw [or1]) <;> omega
      · split <;> (try rw [or1]) <;> omega
    · omega
theorem you_add (N g k : Nat) (hN : 0 < N) (hk : k % 2 = 0) : you N (g + k * N) = you N g + k := by
  have h1 : (g + k * N) / N = g / N + k := Nat.add_mul_div_right _ _ hN
  have h2 : (g + k * N) % N = g % N := Nat.add_mul_mod_self_right _ _ _
  unfold you
  rw [h1, h2]
  split
  · rw [or1, or1]; omega
  · rfl

theorem gee_le {x hi lo : Nat} (hh : 9223372036854775808 ≤ hi) (hl : lo < 18446744073709551616) : x * lo / 18446744073709551616 ≤ x * hi := by
  have h1 : x * lo ≤ x * 18446744073709551616 := Nat.mul_le_mul_left _ (by omega)
  have h2 : x * lo / 18446744073709551616 ≤ x := by
    apply Nat.div_le_of_le_mul
    rw [Nat.mul_comm 18446744073709551616 x]; omega
  have h3 : x * 1 ≤ x * hi := Nat.mul_le_mul_left _ (by omega)
  omega

/-- uscale by what stands exactly. -/
theorem uscale_gee (x hi lo s : Nat) (hx : x ≤ 18446744073709551616 - 2) (hh : 9223372036854775808 ≤ hi) (hh' : hi < 18446744073709551616) (hl : lo < 18446744073709551616) (hx0 : 2 ≤ x) :
    uscaleN x hi lo s = you (18446744073709551616 * 2 ^ s) (gee x hi lo) := by
  have hle := gee_le (x := x) hh hl
  have hq2 : x * lo / 18446744073709551616 ≤ x - 1 := by
    have h1 : x * lo ≤ x * 18446744073709551615 := Nat.mul_le_mul_left _ (by omega)
    have h3 : x * lo < 18446744073709551616 * x := by omega
    have := Nat.div_lt_of_lt_mul h3
    omega
  have hq1 : 1 ≤ x * hi / 18446744073709551616 := by
    have : 2 * 9223372036854775808 ≤ x * hi := Nat.mul_le_mul hx0 hh
    omega
  have hqm : x * hi / 18446744073709551616 < 18446744073709551616 := by
    apply Nat.div_lt_of_lt_mul
    exact Nat.mul_lt_mul'' (by omega) hh'
  unfold uscaleN gee
  generalize x * lo / 18446744073709551616 = q2 at *
  simp only []
  have hda := Nat.div_add_mod (x * hi) 18446744073709551616
  have hrm : x * hi % 18446744073709551616 < 18446744073709551616 := Nat.mod_lt _ (by omega)
  generalize x * hi / 18446744073709551616 = q at *
  generalize x * hi % 18446744073709551616 = r at *
  generalize x * hi = P at *
  generalize h2s : 2 ^ s = S
  have hS : 0 < S := by rw [← h2s]; exact Nat.two_pow_pos s
  clear h2s
  -- the quotient and the rest by S words
  have key : ∀ G, G / (18446744073709551616 * S) = G / 18446744073709551616 / S := fun G => by rw [Nat.div_div_eq_div_mul]
  have keym : ∀ G, G % (18446744073709551616 * S) = 18446744073709551616 * (G / 18446744073709551616 % S) + G % 18446744073709551616 := fun G => by
    rw [Nat.mod_mul]; omega
  unfold you
  rw [key, keym]
  by_cases hb : r < q2
  · have e1 : (P - q2) / 18446744073709551616 = q - 1 := by omega
    have e2 : (P - q2) % 18446744073709551616 = r + 18446744073709551616 - q2 := by omega
    have hbig : 1 < r + 18446744073709551616 - q2 := by omega
    rw [e1, e2, if_pos (show 1 < 18446744073709551616 * ((q - 1) % S) + (r + 18446744073709551616 - q2) by omega)]
    by_cases hq : q % S ≠ 0
    · rw [if_pos hq]
      have : (q - 1) / S = q / S := by
        have a1 := Nat.div_add_mod q S
        have a3 : q % S < S := Nat.mod_lt _ hS
        apply Nat.div_eq_of_lt_le
        · rw [Nat.mul_comm]; omega
        · rw [Nat.add_mul, Nat.one_mul, Nat.mul_comm]; omega
      rw [this]
    · rw [if_neg hq, decide_eq_true hb]
      have e3 : (q + 18446744073709551616 - b2n true) % 18446744073709551616 = q - 1 := by
        show (q + 18446744073709551616 - 1) % 18446744073709551616 = q - 1
        omega
      have e4 : (r + 18446744073709551616 - q2) % 18446744073709551616 = r + 18446744073709551616 - q2 := Nat.mod_eq_of_lt (by omega)
      rw [e3, e4, decide_eq_true hbig]
      rfl
  · have e1 : (P - q2) / 18446744073709551616 = q := by omega
    have e2 : (P - q2) % 18446744073709551616 = r - q2 := by omega
    rw [e1, e2]
    by_cases hq : q % S ≠ 0
    · rw [if_pos hq, if_pos (by omega)]
    · rw [if_neg hq, decide_eq_false hb]
      have e3 : (q + 18446744073709551616 - b2n false) % 18446744073709551616 = q := by
        show (q + 18446744073709551616 - 0) % 18446744073709551616 = q
        omega
      have e4 : (r + 18446744073709551616 - q2) % 18446744073709551616 = r - q2 := by omega
      have hq0 : q % S = 0 := by omega
      rw [e3, e4, hq0]
      by_cases h1 : 1 < r - q2
      · rw [decide_eq_true h1, if_pos (by omega)]; rfl
      · rw [decide_eq_false h1, if_neg (by omega)]
        show q / S ||| 0 = _
        simp
/-- What stands exactly, held between two lines. -/
theorem gee_line (x hi lo : Nat) (hh : 9223372036854775808 ≤ hi) (hl : lo < 18446744073709551616) :
    x * (hi * 18446744073709551616 - lo) ≤ 18446744073709551616 * gee x hi lo ∧ 18446744073709551616 * gee x hi lo < x * (hi * 18446744073709551616 - lo) + 18446744073709551616 := by
  have hle := gee_le (x := x) hh hl
  have h1 : x * (hi * 18446744073709551616 - lo) = x * hi * 18446744073709551616 - x * lo := by
    rw [Nat.mul_sub, Nat.mul_assoc]
  have h2 : x * lo ≤ x * hi * 18446744073709551616 := by
    have h3 : x * lo ≤ x * (hi * 18446744073709551616) := Nat.mul_le_mul_left _ (by omega)
    rwa [← Nat.mul_assoc] at h3
  rw [h1]
  unfold gee
  generalize x * hi = P at *
  generalize x * lo = Q at *
  omega

theorem div_up {a b k N : Nat} (hN : 0 < N) (h : b + k * N ≤ a) : b / N + k ≤ a / N := by
  have := Nat.div_le_div_right (c := N) h
  rwa [Nat.add_mul_div_right _ _ hN] at this
theorem div_dn {a b k N : Nat} (hN : 0 < N) (h : b / N + (k + 1) ≤ a / N) : b + k * N + 1 ≤ a := by
  have h1 := Nat.div_add_mod a N
  have h2 := Nat.div_add_mod b N
  have h3 := Nat.mod_lt b hN
  have h4 : N * (b / N + (k + 1)) ≤ N * (a / N) := Nat.mul_le_mul_left _ h
  rw [Nat.mul_add, Nat.mul_add, Nat.mul_one, Nat.mul_comm N k] at h4
  omega

/-- The digits (in units of the power at hand) lie between the two ends, where there is room for one. -/
theorem round_within (N gn gm gx odd : Nat) (hN : 0 < N) (h1 : gx + gn ≤ 2 * gm + 1) (h2 : 2 * gm ≤ gx + gn + 1) (ho : odd ≤ 1)
    (hlt : (you N gn + odd + 3) / 4 < (you N gx - odd) / 4) :
    (you N gn + odd + 3) / 4 ≤ (you N gm + 1 + you N gm / 4 % 2) / 4 ∧ (you N gm + 1 + you N gm / 4 % 2) / 4 ≤ (you N gx - odd) / 4 := by
  have a1 := you_lo N gn
  have a2 := you_hi N gn
  have b1 := you_lo N gm
  have b2 := you_hi N gm
  have c1 := you_lo N gx
  have c2 := you_hi N gx
  refine ⟨?_, ?_⟩
  · by_cases h : (you N gn + odd + 3) / 4 ≤ (you N gm + 1 + you N gm / 4 % 2) / 4
    · exact h
    exfalso
    have e1 : gm / N + (4 + 1) ≤ gx / N := by omega
    have e2 := div_dn hN e1
    have e3 : gn + 4 * N ≤ gm := by omega
    have e4 := div_up hN e3
    omega
  · by_cases h : (you N gm + 1 + you N gm / 4 % 2) / 4 ≤ (you N gx - odd) / 4
    · exact h
    exfalso
    have e1 : gn / N + (4 + 1) ≤ gm / N := by omega
    have e2 := div_dn hN e1
    have e3 : gm + 4 * N ≤ gx := by omega
    have e4 := div_up hN e3
    omega

/-- There is room, where the ends lie more than a unit apart. -/
theorem room (N gn gx odd : Nat) (hN : 4 ≤ N) (h : gn + 4 * N + 2 ≤ gx) (ho : odd ≤ 1) : (you N gn + odd + 3) / 4 ≤ (you N gx - odd) / 4 := by
  have h0 : 0 < N := by omega
  have e1 : you N (gn + 2) + 4 ≤ you N gx := by
    have := you_add N (gn + 2) 4 h0 (by omega)
    rw [← this]
    exact you_mono (by omega)
  have e2 : you N gn ≤ you N (gn + 2) := you_mono (by omega)
  by_cases hm : you N gn % 4 = 0
  · have e3 : you N gn + 1 ≤ you N (gn + 2) := by
      have hs : ¬ 1 < gn % N := by
        intro hs
        unfold you at hm
        rw [if_pos hs, or1] at hm
        omega
      have hd := Nat.div_add_mod gn N
      have q1 : (gn + 2) / N = gn / N := by
        apply Nat.div_eq_of_lt_le
        · rw [Nat.mul_comm]; omega
        · rw [Nat.add_mul, Nat.one_mul, Nat.mul_comm]; omega
      have q2 : (gn + 2) % N = gn % N + 2 := by
        have hd2 := Nat.div_add_mod (gn + 2) N
        rw [q1] at hd2
        omega
      unfold you at hm ⊢
      rw [if_neg hs] at hm ⊢
      rw [q2, q1, if_pos (by omega), or1]
      omega
    omega
  · omega

def unitOf (dmin dmax u : Nat) : Nat := if dmin ≤ dmax / 10 * 10 then dmax / 10 * 10 else if dmin < dmax then (u + 1 + u / 4 % 2) / 4 else dmin

theorem unit_within (N gn gm gx odd : Nat) (hN : 0 < N) (h1 : gx + gn ≤ 2 * gm + 1) (h2 : 2 * gm ≤ gx + gn + 1) (ho : odd ≤ 1) (hr : (you N gn + odd + 3) / 4 ≤ (you N gx - odd) / 4) :
    (you N gn + odd + 3) / 4 ≤ unitOf ((you N gn + odd + 3) / 4) ((you N gx - odd) / 4) (you N gm) ∧ unitOf ((you N gn + odd + 3) / 4) ((you N gx - odd) / 4) (you N gm) ≤ (you N gx - odd) / 4 := by
  unfold unitOf
  split
  · omega
  · split
    · rename_i h; exact round_within N gn gm gx odd hN h1 h2 ho h
    · omega

/-- From one number to the next: the greater end of the one is the lesser end of the other. -/
theorem ends_part (u odd : Nat) (hu : 1 ≤ u) (ho : odd ≤ 1) : (u - odd) / 4 < (u + (1 - odd) + 3) / 4 := by omega
def valD (x : Nat × Int) : Nat := x.1 * 10 ^ (x.2 + 400).toNat
/-- The word that a scaling makes, at the row i and the shift s. -/
def scaled (i s x : Nat) : Nat := you (18446744073709551616 * 2 ^ s) (gee x (p10Row i).1 (p10Row i).2)
theorem scaled_eq (i s x : Nat) (hi : i < 696) (h0 : 2 ≤ x) (h1 : x ≤ 18446744073709551616 - 2) : uscaleN x (p10Row i).1 (p10Row i).2 s = scaled i s x := by
  obtain ⟨a, b, c⟩ := p10_all i hi
  exact uscale_gee x _ _ s h1 a b c h0
theorem scaled_mono (i s : Nat) (hi : i < 696) {x y : Nat} (h : x ≤ y) : scaled i s x ≤ scaled i s y := by
  obtain ⟨a, b, c⟩ := p10_all i hi
  refine you_mono ?_
  obtain ⟨u1, u2⟩ := gee_line x (p10Row i).1 (p10Row i).2 a c
  obtain ⟨v1, v2⟩ := gee_line y (p10Row i).1 (p10Row i).2 a c
  have : x * ((p10Row i).1 * 18446744073709551616 - (p10Row i).2) ≤ y * ((p10Row i).1 * 18446744073709551616 - (p10Row i).2) := Nat.mul_le_mul_right _ h
  omega

def lowEnd (i s m h odd : Nat) : Nat := (scaled i s (m - h) + odd + 3) / 4
def topEnd (i s m h odd : Nat) : Nat := (scaled i s (m + h) - odd) / 4
def unitAt (i s m h odd : Nat) : Nat := unitOf (lowEnd i s m h odd) (topEnd i s m h odd) (scaled i s m)

theorem valD_core (i s m h odd : Nat) (e : Int) (hi : i < 696) (hs : (-(e + l2p10 ((i : Int) - 348) + 3)).toNat = s) (h0 : h + 2 ≤ m) (h1 : m + h ≤ 18446744073709551616 - 2) :
    valD (shortCore (m - h) (m + h) m odd e i) = unitAt i s m h odd * 10 ^ (748 - i) := by
  unfold shortCore unitAt unitOf lowEnd topEnd
  simp only []
  rw [hs, scaled_eq i s (m - h) hi (by omega) (by omega), scaled_eq i s (m + h) hi (by omega) (by omega), scaled_eq i s m hi (by omega) (by omega)]
  generalize (scaled i s (m - h) + odd + 3) / 4 = dmin
  generalize (scaled i s (m + h) - odd) / 4 = dmax
  split
  · unfold valD
    show dmax / 10 * 10 ^ (-((i : Int) - 348 - 1) + 400).toNat = dmax / 10 * 10 * 10 ^ (748 - i)
    rw [show (-((i : Int) - 348 - 1) + 400).toNat = 748 - i + 1 by omega, Nat.pow_succ, Nat.mul_assoc, Nat.mul_comm (10 ^ (748 - i)) 10]
  · split
    · unfold valD
      show _ * 10 ^ (-((i : Int) - 348) + 400).toNat = _
      rw [show (-((i : Int) - 348) + 400).toNat = 748 - i by omega]
    · unfold valD
      show _ * 10 ^ (-((i : Int) - 348) + 400).toNat = _
      rw [show (-((i : Int) - 348) + 400).toNat = 748 - i by omega]

theorem unitAt_within (i s m h odd : Nat) (hi : i < 696) (hh : h ≤ m) (ho : odd ≤ 1) (hr : lowEnd i s m h odd ≤ topEnd i s m h odd) :
    lowEnd i s m h odd ≤ unitAt i s m h odd ∧ unitAt i s m h odd ≤ topEnd i s m h odd := by
  obtain ⟨a, b, c⟩ := p10_all i hi
  obtain ⟨n1, n2⟩ := gee_line (m - h) (p10Row i).1 (p10Row i).2 a c
  obtain ⟨m1, m2⟩ := gee_line m (p10Row i).1 (p10Row i).2 a c
  obtain ⟨x1, x2⟩ := gee_line (m + h) (p10Row i).1 (p10Row i).2 a c
  have e : (m - h) * ((p10Row i).1 * 18446744073709551616 - (p10Row i).2) + (m + h) * ((p10Row i).1 * 18446744073709551616 - (p10Row i).2) = 2 * (m * ((p10Row i).1 * 18446744073709551616 - (p10Row i).2)) := by
    rw [← Nat.add_mul, show m - h + (m + h) = 2 * m by omega, Nat.mul_assoc]
  have hN : 0 < 18446744073709551616 * 2 ^ s := Nat.mul_pos (by omega) (Nat.two_pow_pos s)
  exact unit_within (18446744073709551616 * 2 ^ s) (gee (m - h) (p10Row i).1 (p10Row i).2) (gee m (p10Row i).1 (p10Row i).2) (gee (m + h) (p10Row i).1 (p10Row i).2) odd hN (by omega) (by omega) ho hr

theorem room_at (i s m h odd : Nat) (hi : i < 696) (hh : h ≤ m) (ho : odd ≤ 1) (hL : (4 * (18446744073709551616 * 2 ^ s) + 2) * 18446744073709551616 ≤ 2 * h * ((p10Row i).1 * 18446744073709551616 - (p10Row i).2)) :
    lowEnd i s m h odd ≤ topEnd i s m h odd ∧ 1 ≤ scaled i s (m + h) := by
  obtain ⟨a, b, c⟩ := p10_all i hi
  obtain ⟨n1, n2⟩ := gee_line (m - h) (p10Row i).1 (p10Row i).2 a c
  obtain ⟨x1, x2⟩ := gee_line (m + h) (p10Row i).1 (p10Row i).2 a c
  have e : (m + h) * ((p10Row i).1 * 18446744073709551616 - (p10Row i).2) = (m - h) * ((p10Row i).1 * 18446744073709551616 - (p10Row i).2) + 2 * h * ((p10Row i).1 * 18446744073709551616 - (p10Row i).2) := by
    rw [← Nat.add_mul, show m - h + 2 * h = m + h by omega]
  have hp := Nat.two_pow_pos s
  have hg : gee (m - h) (p10Row i).1 (p10Row i).2 + 4 * (18446744073709551616 * 2 ^ s) + 2 ≤ gee (m + h) (p10Row i).1 (p10Row i).2 := by
    generalize 2 ^ s = S at *
    omega
  refine ⟨room _ _ _ odd (by omega) hg ho, ?_⟩
  have h1 := you_lo (18446744073709551616 * 2 ^ s) (gee (m + h) (p10Row i).1 (p10Row i).2)
  have h2 : 1 ≤ gee (m + h) (p10Row i).1 (p10Row i).2 / (18446744073709551616 * 2 ^ s) := by
    have := div_up (a := gee (m + h) (p10Row i).1 (p10Row i).2) (b := 0) (k := 1) (N := 18446744073709551616 * 2 ^ s) (by omega) (by omega)
    simpa using this
  show 1 ≤ you _ _
  omega

/-- From one number to the next, in one binade. -/
theorem core_step (i s m h odd : Nat) (e : Int) (hi : i < 696) (hs : (-(e + l2p10 ((i : Int) - 348) + 3)).toNat = s) (h0 : h + 2 ≤ m) (h1 : m + 3 * h ≤ 18446744073709551616 - 2) (ho : odd ≤ 1)
    (r1 : lowEnd i s m h odd ≤ topEnd i s m h odd) (r2 : lowEnd i s (m + 2 * h) h (1 - odd) ≤ topEnd i s (m + 2 * h) h (1 - odd)) (hu : 1 ≤ scaled i s (m + h)) :
    valD (shortCore (m - h) (m + h) m odd e i) < valD (shortCore (m + 2 * h - h) (m + 2 * h + h) (m + 2 * h) (1 - odd) e i) := by
  rw [valD_core i s m h odd e hi hs h0 (by omega), valD_core i s (m + 2 * h) h (1 - odd) e hi hs (by omega) (by omega)]
  have a := (unitAt_within i s m h odd hi (by omega) ho r1).2
  have b := (unitAt_within i s (m + 2 * h) h (1 - odd) hi (by omega) (by omega) r2).1
  have c : topEnd i s m h odd < lowEnd i s (m + 2 * h) h (1 - odd) := by
    unfold topEnd lowEnd
    rw [show m + 2 * h - h = m + h by omega]
    exact ends_part _ odd hu ho
  exact Nat.mul_lt_mul_of_pos_right (by omega) (Nat.pow_pos (by omega))

/-! The exponents. -/
def wideN (ex : Nat) : Bool :=
  let i := (348 - l10p2 ((ex : Int) - 1086 + 11)).toNat
  let s := (-((ex : Int) - 1086 + l2p10 ((i : Int) - 348) + 3)).toNat
  ex == 1075 || decide ((4 * (18446744073709551616 * 2 ^ s) + 2) * 18446744073709551616 ≤ 2 * 1024 * ((p10Row i).1 * 18446744073709551616 - (p10Row i).2))
set_option maxRecDepth 100000 in
theorem wideN_all : ∀ ex, ex < 2047 → (ex == 0 || wideN ex) = true := by decide +kernel
def wideS (z : Nat) : Bool := decide ((4 * (18446744073709551616 * 2 ^ (z - 5)) + 2) * 18446744073709551616 ≤ 2 * 2 ^ (z - 1) * ((p10Row 672).1 * 18446744073709551616 - (p10Row 672).2))
set_option maxRecDepth 100000 in
theorem wideS_all : ∀ z, z < 64 → (decide (z < 12) || wideS z) = true := by decide +kernel

/-- The row of 1: all is exact there. -/
theorem row348 : p10Row 348 = (9223372036854775808, 0) := by decide +kernel
theorem scaled348 (k : Nat) : scaled 348 8 (k * 1024) = 2 * k := by
  unfold scaled
  rw [row348]
  have : gee (k * 1024) 9223372036854775808 0 = 18446744073709551616 * 2 ^ 8 * (2 * k) := by unfold gee; omega
  show you (18446744073709551616 * 2 ^ 8) (gee (k * 1024) 9223372036854775808 0) = 2 * k
  rw [this]
  unfold you
  rw [Nat.mul_mod_right, if_neg (by omega)]
  exact Nat.mul_div_cancel_left _ (by decide)
theorem room348 (F odd : Nat) (hF : 1 ≤ F) (ho : odd ≤ 1) : lowEnd 348 8 (F * 2048) 1024 odd ≤ topEnd 348 8 (F * 2048) 1024 odd ∧ 1 ≤ scaled 348 8 (F * 2048 + 1024) := by
  unfold lowEnd topEnd
  rw [show F * 2048 - 1024 = (2 * F - 1) * 1024 by omega, show F * 2048 + 1024 = (2 * F + 1) * 1024 by omega, scaled348, scaled348]
  omega
theorem wide_at (ex : Nat) (h0 : 1 ≤ ex) (h1 : ex ≤ 2046) (h5 : ex ≠ 1075) (i s : Nat) (hi : (348 - l10p2 ((ex : Int) - 1086 + 11)).toNat = i) (hs : (-((ex : Int) - 1086 + l2p10 ((i : Int) - 348) + 3)).toNat = s) :
    (4 * (18446744073709551616 * 2 ^ s) + 2) * 18446744073709551616 ≤ 2 * 1024 * ((p10Row i).1 * 18446744073709551616 - (p10Row i).2) := by
  have hw := wideN_all ex (by omega)
  unfold wideN at hw
  rw [beq_eq_false_iff_ne.2 (show ex ≠ 0 by omega), beq_eq_false_iff_ne.2 h5, Bool.false_or, Bool.false_or, decide_eq_true_eq, hi, hs] at hw
  exact hw
theorem step_at (ex F i : Nat) (h0 : 1 ≤ ex) (h1 : ex ≤ 2046) (hF : 4503599627370496 ≤ F) (hF1 : F + 1 < 9007199254740992) (hi : (348 - l10p2 ((ex : Int) - 1086 + 11)).toNat = i) :
    valD (shortCore (F * 2048 - 1024) (F * 2048 + 1024) (F * 2048) (F % 2) ((ex : Int) - 1086) i) <
    valD (shortCore (F * 2048 + 2 * 1024 - 1024) (F * 2048 + 2 * 1024 + 1024) (F * 2048 + 2 * 1024) (1 - F % 2) ((ex : Int) - 1086) i) := by
  have hi7 : i < 696 := by subst hi; unfold l10p2; omega
  obtain ⟨s, hs⟩ : ∃ s, (-((ex : Int) - 1086 + l2p10 ((i : Int) - 348) + 3)).toNat = s := ⟨_, rfl⟩
  have ho : F % 2 ≤ 1 := by omega
  by_cases h5 : ex = 1075
  · subst h5
    obtain rfl : i = 348 := by subst hi; decide
    obtain rfl : s = 8 := by subst hs; decide
    have r1 := room348 F (F % 2) (by omega) ho
    have r2 := room348 (F + 1) (1 - F % 2) (by omega) (by omega)
    rw [show (F + 1) * 2048 = F * 2048 + 2 * 1024 by omega] at r2
    exact core_step 348 8 _ 1024 _ _ hi7 hs (by omega) (by omega) ho r1.1 r2.1 r1.2
  · have hw := wide_at ex h0 h1 h5 i s hi hs
    have r1 := room_at i s (F * 2048) 1024 (F % 2) hi7 (by omega) ho hw
    have r2 := room_at i s (F * 2048 + 2 * 1024) 1024 (1 - F % 2) hi7 (by omega) (by omega) hw
    exact core_step i s _ 1024 _ _ hi7 hs (by omega) (by omega) ho r1.1 r2.1 r1.2
theorem short_at (ex fr F i : Nat) (h0 : 1 ≤ ex) (hn : ¬ (fr = 0 ∧ 1 < ex)) (hF : fr + 4503599627370496 = F) (hi : (348 - l10p2 ((ex : Int) - 1086 + 11)).toNat = i) :
    shortDP ex fr = shortCore (F * 2048 - 1024) (F * 2048 + 1024) (F * 2048) (F % 2) ((ex : Int) - 1086) i := by
  unfold shortDP
  rw [if_neg (by omega)]
  simp only []
  rw [if_neg hn, hF, hi, show F * 2048 / 2048 % 2 = F % 2 by omega]
theorem step_normal (ex fr : Nat) (h0 : 1 ≤ ex) (h1 : ex ≤ 2046) (hf : fr + 1 < 4503599627370496) (hn : ¬ (fr = 0 ∧ 1 < ex)) : valD (shortDP ex fr) < valD (shortDP ex (fr + 1)) := by
  obtain ⟨F, hF⟩ : ∃ F, fr + 4503599627370496 = F := ⟨_, rfl⟩
  obtain ⟨i, hi⟩ : ∃ i, (348 - l10p2 ((ex : Int) - 1086 + 11)).toNat = i := ⟨_, rfl⟩
  rw [short_at ex fr F i h0 hn hF hi, short_at ex (fr + 1) (F + 1) i h0 (by omega) (by omega) hi, show (F + 1) * 2048 = F * 2048 + 2 * 1024 by omega, show (F + 1) % 2 = 1 - F % 2 by omega]
  exact step_at ex F i h0 h1 (by omega) (by omega) hi

theorem step_sub (fr : Nat) (h0 : 1 ≤ fr) (hf : fr + 1 < 4503599627370496) (hb : Lib.bitLen (fr + 1) = Lib.bitLen fr) : valD (shortDP 0 fr) < valD (shortDP 0 (fr + 1)) := by
  unfold shortDP
  rw [if_pos rfl, if_pos rfl]
  simp only []
  rw [hb]
  obtain ⟨b1, b2, b3⟩ := bitLen_bounds fr h0 (by omega)
  have b4 : fr + 1 < 2 ^ Lib.bitLen fr := hb ▸ (bitLen_bounds (fr + 1) (by omega) (by omega)).2.2
  have hL : Lib.bitLen fr ≤ 52 := by
    by_cases h : Lib.bitLen fr ≤ 52
    · exact h
    · have : 2 ^ 52 ≤ 2 ^ (Lib.bitLen fr - 1) := Nat.pow_le_pow_right (by omega) (by omega)
      omega
  obtain ⟨z, hz⟩ : ∃ z, 64 - Lib.bitLen fr = z := ⟨_, rfl⟩
  have hK : 2 ^ Lib.bitLen fr * 2 ^ z = 18446744073709551616 := by
    rw [← Nat.pow_add, show Lib.bitLen fr + z = 64 by omega]
  rw [hz]
  have hP : 2 ^ z = 2 * 2 ^ (z - 1) := by
    rw [show z = (z - 1) + 1 by omega, Nat.pow_succ, Nat.add_sub_cancel]; omega
  have hP4 : 2048 ≤ 2 ^ (z - 1) := by
    have : 2 ^ 11 ≤ 2 ^ (z - 1) := Nat.pow_le_pow_right (by omega) (by omega)
    omega
  have hw := wideS_all z (by omega)
  unfold wideS at hw
  rw [decide_eq_false (show ¬ z < 12 by omega), Bool.false_or, decide_eq_true_eq] at hw
  have hodd : ∀ f, f * 2 ^ z / 2 ^ z % 2 = f % 2 := fun f => by rw [Nat.mul_div_cancel _ (Nat.two_pow_pos z)]
  rw [hodd, hodd]
  have e2 : (fr + 1) % 2 = 1 - fr % 2 := by omega
  have e1 : (fr + 1) * 2 ^ z = fr * 2 ^ z + 2 * 2 ^ (z - 1) := by rw [Nat.add_mul, Nat.one_mul, hP]
  rw [e2, e1]
  have hs : (-(-1074 - (z : Int) + l2p10 (((672 : Nat) : Int) - 348) + 3)).toNat = z - 5 := by
    rw [show l2p10 (((672 : Nat) : Int) - 348) = 1076 by decide]; omega
  have hm : (fr + 2) * 2 ^ z ≤ 2 ^ Lib.bitLen fr * 2 ^ z := Nat.mul_le_mul_right _ (by omega)
  have hm1 : 1 * 2 ^ z ≤ fr * 2 ^ z := Nat.mul_le_mul_right _ h0
  rw [Nat.add_mul, hK] at hm
  have ho : fr % 2 ≤ 1 := by omega
  obtain ⟨m, hm0⟩ : ∃ m, fr * 2 ^ z = m := ⟨_, rfl⟩
  obtain ⟨h, hh0⟩ : ∃ h, 2 ^ (z - 1) = h := ⟨_, rfl⟩
  rw [hm0] at hm hm1 ⊢
  rw [hh0] at hP hP4 hw ⊢
  have r1 := room_at 672 (z - 5) m h (fr % 2) (by omega) (by omega) ho hw
  have r2 := room_at 672 (z - 5) (m + 2 * h) h (1 - fr % 2) (by omega) (by omega) (by omega) hw
  exact core_step 672 (z - 5) m h _ _ (by omega) hs (by omega) (by omega) ho r1.1 r2.1 r1.2
end Go.Proofs.YtlebpaneignfaaaDoor.Sh
