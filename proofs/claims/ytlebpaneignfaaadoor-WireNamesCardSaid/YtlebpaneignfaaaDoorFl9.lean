/- A number as text at the format f: ftoa64, FormatFloat over the translated program. Conditions: the tables hold what start-up lays. -/
import Derived.Test.YtlebpaneignfaaaDoorFl6
import Derived.Test.YtlebpaneignfaaaDoorFl7
import Derived.Test.YtlebpaneignfaaaDoorFl8
import Derived.Test.YtlebpaneignfaaaDoorFlx
import Derived.Deep.RegionWith
namespace Go.Proofs.YtlebpaneignfaaaDoor
open Go.ChangeShapes Go.WideShapes Go.ChangeAt Go.RowKit Go.Sort

/-- The digits of d that count. -/
def digs (d : Nat) : List UInt8 := (Lib.decDigits d).take (stripTo (Lib.decDigits d) (Lib.nDigits d))
/-- d times ten to the p, with a point where it belongs. -/
def fixText (neg : Bool) (d : Nat) (p : Int) : List UInt8 :=
  let dp : Int := (Lib.nDigits d : Int) + p
  if dp ≤ 0 then sgn neg ++ [48, 46] ++ List.replicate (-dp).toNat 48 ++ digs d
  else if dp < (digs d).length then sgn neg ++ (digs d).take dp.toNat ++ [46] ++ (digs d).drop dp.toNat
  else sgn neg ++ digs d ++ List.replicate (dp.toNat - (digs d).length) 48

theorem digs_length (d : Nat) : (digs d).length = stripTo (Lib.decDigits d) (Lib.nDigits d) := by
  unfold digs
  rw [List.length_take, Lib.decDigits_length]
  have := stripTo_le (Lib.decDigits d) (Lib.nDigits d)
  omega

theorem heap_pos {w : World} (h : TCtx w) : 0 < w.heap.size := by
  have := World.block_lt_of_cell? w _ h.opt
  omega

/-- fmtEFG at the format f, on what setDigits leaves. -/
theorem fmtF_all (B Bb : Nat) (T : TypeId) (hT : T ≠ 5) (hBb : Bb ≠ 0) (d : Nat) (p : Int) (h1 : 1 ≤ d) (h2 : d < 18446744073709551616) (hp0 : -400 ≤ p) (hp1 : p ≤ 370) (neg : Bool) (w : World) (v : Value) (hO : Own B Bb T (digs d) w w v []) :
    Calls Tryd.prog 53 #[v, .bool neg, .slice (some ⟨Bb, 0, none⟩) 32 32, .int .i64 ((Lib.nDigits d : Int) + p), .int .i64 ((digs d).length : Nat), .int .i64 (max (((digs d).length : Int) - ((Lib.nDigits d : Int) + p)) 0), .int .u8 102, .bool true] w (FmtPost B w (fixText neg d p)) := by
  have hn20 := Lib.nDigits_le20 d h2
  have hn1 := Lib.nDigits_pos d
  have hl := digs_length d
  have hs1 := stripTo_pos (Lib.decDigits d) (decDigits_head d h1) (Lib.nDigits d) hn1
  have hs2 := stripTo_le (Lib.decDigits d) (Lib.nDigits d)
  unfold fixText
  simp only []
  generalize hdp : (Lib.nDigits d : Int) + p = dp at *
  generalize hnd : (digs d).length = nd at *
  by_cases c1 : dp ≤ 0
  · rw [if_pos c1]
    obtain ⟨z, rfl⟩ : ∃ z : Nat, dp = -(z : Int) := ⟨(-dp).toNat, by omega⟩
    rw [show max ((nd : Int) - -(z : Int)) 0 = ((nd + z : Nat) : Int) by omega, show (-(-(z : Int))).toNat = z by omega]
    exact fmtF_below B Bb T hT hBb (digs d) nd z hnd (by omega) (by omega) (by omega) neg w v hO
  · rw [if_neg c1]
    obtain ⟨e, rfl⟩ : ∃ e : Nat, dp = (e : Int) := ⟨dp.toNat, by omega⟩
    rw [show ((e : Int)).toNat = e by omega]
    by_cases c2 : e < nd
    · rw [if_pos (by omega)]
      rw [show max ((nd : Int) - (e : Int)) 0 = ((nd - e : Nat) : Int) by omega]
      exact fmtF_inside B Bb T hT hBb (digs d) nd e hnd (by omega) (by omega) c2 neg w v hO
    · rw [if_neg (by omega)]
      rw [show max ((nd : Int) - (e : Int)) 0 = 0 by omega]
      exact fmtF_above B Bb T hT hBb (digs d) nd e hnd (by omega) (by omega) (by omega) (by omega) neg w v hO

/-- A number's bits, taken apart. -/
structure Bits3 (b : Nat) (neg : Bool) (ex fr : Nat) : Prop where
  lt : b < 18446744073709551616
  hsg : (((b : Int) / 9223372036854775808) != 0) = neg
  hex : bits .and .i64 ((b : Int) / 4503599627370496) 2047 = (ex : Int)
  hfr : bits .and .u64 (b : Int) 4503599627370495 = (fr : Int)
  exle : ex ≤ 2047
  frlt : fr < 4503599627370496

theorem zeros32_lit : (#[Value.int .u8 0, Value.int .u8 0, Value.int .u8 0, Value.int .u8 0, Value.int .u8 0, Value.int .u8 0, Value.int .u8 0, Value.int .u8 0, Value.int .u8 0, Value.int .u8 0, Value.int .u8 0, Value.int .u8 0, Value.int .u8 0, Value.int .u8 0, Value.int .u8 0, Value.int .u8 0, Value.int .u8 0, Value.int .u8 0, Value.int .u8 0, Value.int .u8 0, Value.int .u8 0, Value.int .u8 0, Value.int .u8 0, Value.int .u8 0, Value.int .u8 0, Value.int .u8 0, Value.int .u8 0, Value.int .u8 0, Value.int .u8 0, Value.int .u8 0, Value.int .u8 0, Value.int .u8 0] : Array Value) = zeros32 := rfl
theorem own_made (w : World) (T : TypeId) (ds : List UInt8) : Own w.heap.size 0 T ds w (w.alloc (.cells (Array.replicate 24 (Value.int .u8 0)) 5)) (.slice (some ⟨w.heap.size, 0, none⟩) 0 24) [] :=
  ⟨World.ownsRow_made w _ 24 (Nat.le_refl _) (by unfold maxLen; omega) (by simp), .inl rfl, (Below.refl _ _).alloc (Nat.le_refl _) _, by simp⟩

theorem or_add (fr : Nat) (h : fr < 4503599627370496) : fr ||| 4503599627370496 = fr + 4503599627370496 := by
  have := Nat.two_pow_add_eq_or_of_lt (i := 52) (b := fr) (by omega) 1
  rw [Nat.or_comm, show (4503599627370496 : Nat) = 2 ^ 52 * 1 from by decide, ← this]
  omega

theorem len53 (u : Nat) (h0 : 4503599627370496 ≤ u) (h1 : u < 9007199254740992) (w : World) : Calls Tryd.prog 45 #[.int .u64 u] w fun e w' => e = .returned (.int .i64 53) ∧ w = w' := by
  have e : Lib.bitLen ((u : Int)).toNat = 53 := by
    rw [show ((u : Int)).toNat = u by omega, Lib.bitLen_shift 52 u (by omega) (by omega), show u / 2 ^ 52 = 1 by omega]
    decide
  have h := Any.bits_Len64 Tryd.lays129 (u : Int) w (by omega) (by omega)
  rw [e] at h
  exact h.mono fun _ _ ⟨a, b⟩ => ⟨a, b.symm⟩

theorem own_below {w w' : World} {B : Nat} {e : TypeId} {size : Nat} {v : Value} {n : Nat} {xs : List Value} (h : w.ownsRow B e size v n xs) (hb : Below w.heap.size w w') : w'.ownsRow B e size v n xs := by
  refine ⟨h.1, ?_⟩
  rcases h.2 with h2 | ⟨g, cap, cur, hv, hg, hh, r⟩
  · exact Or.inl h2
  · refine Or.inr ⟨g, cap, cur, hv, hg, ?_, r⟩
    rw [hb.block g (Array.getElem?_eq_some_iff.1 hh).1]
    exact hh

theorem own_belowB {w w' : World} {B Bb : Nat} {e : TypeId} {size : Nat} {v : Value} {n : Nat} {xs : List Value} (h : w.ownsRow B e size v n xs) (hv : ∀ k, v.ownBlock = some k → k < Bb) (hb : Below Bb w w') : w'.ownsRow B e size v n xs := by
  refine ⟨h.1, ?_⟩
  rcases h.2 with h2 | ⟨g, cap, cur, rfl, hg, hh, r⟩
  · exact Or.inl h2
  · refine Or.inr ⟨g, cap, cur, rfl, hg, ?_, r⟩
    rw [hb.block g (hv g rfl)]
    exact hh

set_option maxHeartbeats 2000000 in
set_option maxRecDepth 100000 in
theorem ftoa_normal (b : Nat) (neg : Bool) (ex fr : Nat) (hb : Bits3 b neg ex fr) (hx0 : 1 ≤ ex) (hx1 : ex ≤ 2046) (hp : (shortDP ex fr).2 ≤ 370) (B : Nat) (w : World) (v : Value) (hown : w.ownsRow B 5 1 v 0 []) (hB : B ≤ w.heap.size) (hc : TCtx w) :
    Calls Tryd.prog 37 #[v, .float .f64 b, .int .u8 102, .int .i64 (-1)] w (FmtPost B w (fixText neg (shortDP ex fr).1 (shortDP ex fr).2)) := by
  have hS := short_normal ex fr hx0 hx1 hb.frlt
  have hF := short_fits_normal ex fr hx0 hx1 hb.frlt
  generalize shortDP ex fr = dp at *
  obtain ⟨d, p⟩ := dp
  simp only [] at hF hp
  have Hc := Lib.hid hc
  have ecast : (((fr + 4503599627370496) * 2048 : Nat) : Int) = ((fr : Int) + 4503599627370496) * 2048 := by omega
  simp only [ecast] at hS
  have HS := Lib.hid hS
  have hsg := hb.hsg
  have hex := hb.hex
  have hfr := hb.hfr
  have hflt := hb.frlt
  have hblt := hb.lt
  have Hown := Lib.hid hown
  clear hc hS hown
  have hor : bits .or .u64 (fr : Int) 4503599627370496 = ((fr + 4503599627370496 : Nat) : Int) := by
    have h := bits_or_u64_nat fr 4503599627370496 (by omega) (by omega)
    rw [or_add fr hflt] at h
    exact h
  have HB := Lib.hid hb
  clear hb
  have e0 : ((ex : Int) == 0) = false := by rw [beq_eq_false_iff_ne]; omega
  have e1 : ((ex : Int) == 2047) = false := by rw [beq_eq_false_iff_ne]; omega
  go_enter Tryd.func37, Tryd.ntmps37
  go_wp2_with fail
  go_quiet (fail)
  have hown1 : (w.drewN nq).ownsRow B 5 1 v 0 [] := Hown.out
  have hB1 : B ≤ (w.drewN nq).heap.size := hB
  have hc1 : TCtx (w.drewN nq) := Hc.out.below ⟨rfl, rfl, rfl, Nat.le_refl _, fun _ _ => rfl⟩
  have hbel1 : Below B w (w.drewN nq) := ⟨rfl, rfl, rfl, Nat.le_refl _, fun _ _ => rfl⟩
  generalize w.drewN nq = w1 at hown1 hB1 hc1 hbel1 ⊢
  have Hc1 := Lib.hid hc1
  have Hown1 := Lib.hid hown1
  clear hown1 hc1
  have HLn := Lib.hid (len53 (fr + 4503599627370496) (by omega) (by omega))
  go_wp2_with fail
  refine (HLn.out _).mono ?_; rintro en w' ⟨rfl, rfl⟩
  go_wp2_with fail
  have hz32 : (w1.alloc (.cells zeros32 88)).heap[w1.heap.size]? = some (.cells zeros32 88 (0, 0)) := heap_alloc_new w1 _
  have hb32 : Below w1.heap.size w1 (w1.alloc (.cells zeros32 88)) := (Below.refl _ _).alloc (Nat.le_refl _) _
  have ho32 : (w1.alloc (.cells zeros32 88)).ownsRow B 5 1 v 0 [] := Hown1.out.alloc _
  have hbB : Below B w (w1.alloc (.cells zeros32 88)) := hbel1.alloc hB1 _
  have hsz : (w1.alloc (.cells zeros32 88)).heap.size = w1.heap.size + 1 := by simp
  have hc32 := Hc1.out.below hb32
  have hpos := heap_pos Hc1.out
  rw [zeros32_lit, show (ex : Int) + -1023 - 11 - 52 = (ex : Int) - 1086 by omega]
  generalize hw2 : w1.alloc (.cells zeros32 88) = w2 at *
  generalize hBb : w1.heap.size = Bb at *
  have hBBb : B ≤ Bb := hB1
  clear hw2 hb32
  refine (HS.out _ hc32).mono ?_
  rintro en w3 ⟨rfl, hb3⟩
  have hz3 : w3.heap[Bb]? = some (.cells zeros32 88 (0, 0)) := by rw [hb3.block Bb (by omega)]; exact hz32
  have ho3 := own_below ho32 hb3
  have hb03 : Below B w w3 := hbB.trans (hb3.mono (by omega))
  have hc3 := hc32.below hb3
  have hs3 := hb3.size
  have hsd := fun W => setDigits_calls d p hF.2.1 (by omega) (by omega) Bb 88 W
  unfold SetPost at hsd
  simp only [← digs_length] at hsd
  have hvlt : ∀ k, v.ownBlock = some k → k < Bb := fun k hk => by rw [← hBb]; exact (Hown1.out.lt k hk).2
  have hn20 := Lib.nDigits_le20 d hF.2.1
  have hd20 : (digs d).length ≤ 20 := by rw [digs_length]; have := stripTo_le (Lib.decDigits d) (Lib.nDigits d); omega
  have Hz3 := Lib.hid hz3
  have Ho3 := Lib.hid ho3
  have Hc3 := Lib.hid hc3
  have Hsd := Lib.hid hsd
  clear hz32 ho32 hc32 hb3 hz3 ho3 hc3 hsd
  go_wp2_with fail
  go_region_with (first
    | (go_at_call 33; refine (numDigits_calls d hF.1 hF.2.1 _ (by exact Hc3.out.below ⟨rfl, rfl, rfl, Nat.le_refl _, fun _ _ => rfl⟩)).mono ?_; rintro en w' ⟨rfl, rfl⟩)
    | (go_at_call 55; refine (Hsd.out _ (by exact Hz3.out)).mono ?_; rintro en w' ⟨rfl, hD, hbd⟩))
  all_goals
    have hbd' : Below Bb w3 w' := ⟨hbd.os, hbd.tape, hbd.output, hbd.size, hbd.block⟩
    have ho4 := own_belowB Ho3.out hvlt hbd'
    have hb4 := hb03.trans (hbd'.mono hBBb)
    have hsz4 := hbd'.size
    clear hbd hbd'
    have HD := Lib.hid hD
    have Ho4 := Lib.hid ho4
    clear hD ho4
    go_wp2_with fail
    have hO : Own B Bb 88 (digs d) w' w' v [] := ⟨Ho4.out, .inr (by unfold digs; exact HD.out.take _), Below.refl _ _, by omega⟩
    refine (fmtF_all B Bb 88 (by decide) (by omega) d p hF.1 hF.2.1 (by omega) (by omega) neg w' v hO).mono ?_
    rintro en w5 ⟨v5, rfl, hr5, hb5⟩
    go_wp2_with fail
    go_ret
    exact ⟨v5, rfl, hr5, hb4.trans hb5⟩

set_option maxHeartbeats 2000000 in
set_option maxRecDepth 100000 in
theorem ftoa_zero (b : Nat) (neg : Bool) (hb : Bits3 b neg 0 0) (B : Nat) (w : World) (v : Value) (hown : w.ownsRow B 5 1 v 0 []) (hB : B ≤ w.heap.size) :
    Calls Tryd.prog 37 #[v, .float .f64 b, .int .u8 102, .int .i64 (-1)] w (FmtPost B w (sgn neg ++ [48])) := by
  have hsg := hb.hsg
  have hex := hb.hex
  have hfr := hb.hfr
  have hblt := hb.lt
  have Hown := Lib.hid hown
  clear hown hb
  go_enter Tryd.func37, Tryd.ntmps37
  go_wp2_with fail
  go_quiet (fail)
  have hO : Own B 0 88 [] (w.drewN nq) (w.drewN nq) v [] := ⟨Hown.out, .inl rfl, Below.refl _ _, hB⟩
  have hbel1 : Below B w (w.drewN nq) := ⟨rfl, rfl, rfl, Nat.le_refl _, fun _ _ => rfl⟩
  generalize w.drewN nq = w1 at hO hbel1 ⊢
  go_wp2_with fail
  refine (fmtF_none B 0 88 (by decide) [] neg w1 v hO).mono ?_
  rintro en w5 ⟨v5, rfl, hr5, hb5⟩
  go_wp2_with fail
  go_ret
  exact ⟨v5, rfl, hr5, hbel1.trans hb5⟩

end Go.Proofs.YtlebpaneignfaaaDoor
