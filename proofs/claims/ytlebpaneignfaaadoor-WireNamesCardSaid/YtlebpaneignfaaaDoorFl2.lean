/- What the walks read of the library's tables ('RCtx'), and the shortest digits of a number (prescale, shortFloat) over the translated program. Conditions: the tables hold what start-up lays. -/
import Derived.Test.YtlebpaneignfaaaDoorFl1
import Derived.Stop.LaidErr
import Derived.Lib.ItoaMem
import Derived.LaidLaws
namespace Go.Proofs.YtlebpaneignfaaaDoor
open Go.ChangeShapes Go.WideShapes Go.ChangeAt Go.RowKit

def p10Row (i : Nat) : Nat × Nat := Go.Pinned.pow10Rows.getD i (0, 0)
/-- float64pow10's numbers, by their bits. -/
def f10Bits : List Nat := [4607182418800017408, 4621819117588971520, 4636737291354636288, 4652007308841189376, 4666723172467343360, 4681608360884174848, 4696837146684686336, 4711630319722168320, 4726483295884279808, 4741671816366391296, 4756540486875873280, 4771362005757984768, 4786511204640096256, 4801453603149578240, 4816244402031689728, 4831355200913801216, 4846369599423283200, 4861130398305394688, 4876203697187506176, 4891288408196988160, 4906019910204099648, 4921056587992461136, 4936209963552724370]
/-- What start-up lays, as far as the walks of Text read it. -/
structure TCtx (w : World) : Prop where
  tab : Lib.TabIs Tryd.prog w "internal/strconv.uint64pow10" .u64 Lib.pow10Tab
  p10 : ∀ i, i < 696 → w.cell? ⟨9, 2 * i, none⟩ = some (.int .u64 ((p10Row i).1 : Int)) ∧ w.cell? ⟨9, 2 * i + 1, none⟩ = some (.int .u64 ((p10Row i).2 : Int))
  opt : w.cell? ⟨3, 0, none⟩ = some (.bool true)
theorem var?_lt {P : Program} {W : World} {n : String} {cs : Array Value} (h : W.var? P n = some cs) : ∃ g, P.globalNamed n = some g ∧ g < W.heap.size := by
  unfold World.var? at h
  cases hg : P.globalNamed n with
  | none => simp [hg] at h
  | some g =>
    simp only [hg, Option.bind_some] at h
    refine ⟨g, rfl, ?_⟩
    rcases Nat.lt_or_ge g W.heap.size with h' | h'
    · exact h'
    · simp [Array.getElem?_eq_none h'] at h
theorem var?_belowAll {P : Program} {W W' : World} {n : String} {cs : Array Value} (hb : Below W.heap.size W W') (h : W.var? P n = some cs) : W'.var? P n = some cs := by
  obtain ⟨g, hg, hlt⟩ := var?_lt h
  exact var?_below hb hg hlt h
theorem cell_below {w w' : World} {a : Addr} {v : Value} (hb : Below w.heap.size w w') (h : w.cell? a = some v) : w'.cell? a = some v := by
  rw [hb.cell (World.block_lt_of_cell? w a h)]
  exact h
theorem TCtx.below {w w' : World} (h : TCtx w) (hb : Below w.heap.size w w') : TCtx w' :=
  ⟨var?_belowAll hb h.tab, fun i hi => ⟨cell_below hb (h.p10 i hi).1, cell_below hb (h.p10 i hi).2⟩, cell_below hb h.opt⟩
theorem p10_all : ∀ i, i < 696 → 9223372036854775808 ≤ (p10Row i).1 ∧ (p10Row i).1 < 18446744073709551616 ∧ (p10Row i).2 < 18446744073709551616 := by
  have h : (Go.Pinned.pow10Rows.all fun x => decide (9223372036854775808 ≤ x.1) && decide (x.1 < 18446744073709551616) && decide (x.2 < 18446744073709551616)) = true := by decide +kernel
  have hl : Go.Pinned.pow10Rows.length = 696 := by decide +kernel
  intro i hi
  have hm : p10Row i ∈ Go.Pinned.pow10Rows := by
    unfold p10Row
    rw [List.getD_eq_getElem?_getD, List.getElem?_eq_getElem (by omega)]
    exact List.getElem_mem _
  have := List.all_eq_true.1 h _ hm
  simp only [Bool.and_eq_true, decide_eq_true_eq] at this
  exact ⟨this.1.1, this.1.2, this.2⟩

def scaleS (e p : Int) : Int := -(e + l2p10 p + 3)
set_option maxHeartbeats 400000 in
set_option maxRecDepth 100000 in
theorem prescale_calls (e p : Int) (i : Nat) (hi : i < 696) (hp : p = (i : Int) - 348) (he0 : -5000 ≤ e) (he1 : e ≤ 5000) (lp : Int) (hl0 : -5000 ≤ lp) (hl1 : lp ≤ 5000) (B : Nat) (T : TypeId) (a b c : Value) (w : World) (hB : B = w.heap.size) (hc : TCtx w) :
    Calls Tryd.prog 73 #[.pointer (some ⟨B, 0, none⟩), .int .i64 e, .int .i64 p, .int .i64 lp] (w.alloc (.cells #[a, b, c] T)) fun en w' =>
      en = .returned (.tuple #[]) ∧ w' = w.alloc (.cells #[.int .u64 ((p10Row i).1 : Int), .int .u64 ((p10Row i).2 : Int), .int .i64 (-(e + lp + 3))] T) := by
  have h1 := (hc.p10 i hi).1
  have h2 := (hc.p10 i hi).2
  rw [Nat.mul_comm] at h1 h2
  have hlt : 9 < w.heap.size := World.block_lt_of_cell? w _ h1
  have hlt' : 9 ≠ w.heap.size := by omega
  obtain rfl : p = (i : Int) - 348 := hp
  have e1 : (i : Int) - 348 - -348 = (i : Int) := by omega
  have e2 : ((i : Int)).toNat = i := by omega
  have hi' : (i : Int) < 696 := by omega
  subst hB
  have H := Lib.hid hc; clear hc
  go_enter Tryd.func73, Tryd.ntmps73
  go_wp2_with fail
  go_end0
  exact ⟨rfl, rfl⟩

/-- The shortest digits between two ends: what shortFloat does behind its three cases; i is the row of the power of ten. -/
def shortCore (mn mx m odd : Nat) (e : Int) (i : Nat) : Nat × Int :=
  let p : Int := (i : Int) - 348
  let s := (-(e + l2p10 p + 3)).toNat
  let dmin := (uscaleN mn (p10Row i).1 (p10Row i).2 s + odd + 3) / 4
  let dmax := (uscaleN mx (p10Row i).1 (p10Row i).2 s - odd) / 4
  let u := uscaleN m (p10Row i).1 (p10Row i).2 s
  if dmin ≤ dmax / 10 * 10 then (dmax / 10, -(p - 1))
  else if dmin < dmax then ((u + 1 + u / 4 % 2) / 4, -p)
  else (dmin, -p)

theorem uscaleN_le (x hi lo s : Nat) (hx : x < 18446744073709551616) (hh : hi < 18446744073709551616) (hs : 4 ≤ s) : uscaleN x hi lo s < 1152921504606846976 + 1 := by
  have hq := q_lt hx hh
  have h16 : (16 : Nat) ≤ 2 ^ s := by
    have := Nat.pow_le_pow_right (n := 2) (by omega) hs
    omega
  have hd : ∀ a : Nat, a < 18446744073709551616 → a / 2 ^ s < 1152921504606846976 := by
    intro a ha
    apply Nat.div_lt_of_lt_mul
    have := Nat.mul_le_mul_right 1152921504606846976 h16
    omega
  have hor : ∀ a b : Nat, a < 1152921504606846976 → b ≤ 1 → a ||| b < 1152921504606846976 + 1 := by
    intro a b ha hb
    have := Nat.or_lt_two_pow (x := a) (y := b) (n := 60) (by omega) (by omega)
    omega
  have hb2 : ∀ b, b2n b ≤ 1 := fun b => by unfold b2n; split <;> omega
  unfold uscaleN
  simp only []
  split
  · exact hor _ _ (hd _ hq) (by omega)
  · exact hor _ _ (hd _ (by omega)) (hb2 _)

theorem or_ge (a b : Nat) : a ≤ a ||| b := Nat.left_le_or
/-- No digit is lost whole: at x of 62 bits and more, s of 60 at most, the scaled number is not nothing. -/
theorem uscaleN_pos (x hi lo s : Nat) (hx : 4611686018427387904 ≤ x) (hx' : x < 18446744073709551616) (hh : 9223372036854775808 ≤ hi) (hh' : hi < 18446744073709551616) (hs : s ≤ 58) : 7 ≤ uscaleN x hi lo s := by
  have hq : 2305843009213693952 ≤ x * hi / 18446744073709551616 := by
    rw [Nat.le_div_iff_mul_le (by omega)]
    have := Nat.mul_le_mul hx hh
    omega
  have hq' := q_lt hx' hh'
  have hp : 2 ^ s ≤ 288230376151711744 := by
    have := Nat.pow_le_pow_right (n := 2) (by omega) hs
    omega
  have hd : ∀ a : Nat, 2305843009213693951 ≤ a → 7 ≤ a / 2 ^ s := by
    intro a ha
    rw [Nat.le_div_iff_mul_le (Nat.two_pow_pos s)]
    omega
  have hb2 : ∀ b, b2n b ≤ 1 := fun b => by unfold b2n; split <;> omega
  unfold uscaleN
  simp only []
  split
  · exact Nat.le_trans (hd _ (by omega)) (or_ge _ _)
  · refine Nat.le_trans (hd _ ?_) (or_ge _ _)
    have := hb2 (decide (x * hi % 18446744073709551616 < x * lo / 18446744073709551616))
    omega
end Go.Proofs.YtlebpaneignfaaaDoor
