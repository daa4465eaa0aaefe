/- A number as text at the format e: ftoa64 over the translated program. Conditions: the tables hold what start-up lays. -/
import Derived.Test.YtlebpaneignfaaaDoorFl9
import Derived.Test.YtlebpaneignfaaaDoorFe2
import Derived.Deep.RegionWith
namespace Go.Proofs.YtlebpaneignfaaaDoor
open Go.ChangeShapes Go.WideShapes Go.ChangeAt Go.RowKit Go.Sort

/-- d times ten to the p, with one digit before the point and a power of ten. -/
def eText (neg : Bool) (d : Nat) (p : Int) : List UInt8 :=
  sgn neg ++ mantText (digs d) ++ expText (decide ((Lib.nDigits d : Int) + p - 1 < 0)) ((Lib.nDigits d : Int) + p - 1).natAbs

/-- fmtEFG at the format e, on what setDigits leaves. -/
theorem fmtE_all (B Bb : Nat) (T : TypeId) (hT : T ≠ 5) (hBb : Bb ≠ 0) (d : Nat) (p : Int) (h1 : 1 ≤ d) (h2 : d < 18446744073709551616) (hp0 : -400 ≤ p) (hp1 : p ≤ 400) (neg : Bool) (w : World) (v : Value) (hO : Own B Bb T (digs d) w w v []) :
    Calls Tryd.prog 53 #[v, .bool neg, .slice (some ⟨Bb, 0, none⟩) 32 32, .int .i64 ((Lib.nDigits d : Int) + p), .int .i64 ((digs d).length : Nat), .int .i64 (max (((digs d).length : Int) - 1) 0), .int .u8 101, .bool true] w (FmtPost B w (eText neg d p)) := by
  have hn20 := Lib.nDigits_le20 d h2
  have hn1 := Lib.nDigits_pos d
  have hl := digs_length d
  have hs1 := stripTo_pos (Lib.decDigits d) (decDigits_head d h1) (Lib.nDigits d) hn1
  have hs2 := stripTo_le (Lib.decDigits d) (Lib.nDigits d)
  unfold eText
  generalize hdp : (Lib.nDigits d : Int) + p = dp at *
  generalize hnd : (digs d).length = nd at *
  have hE : dp - 1 = if decide (dp - 1 < 0) then -((dp - 1).natAbs : Int) else ((dp - 1).natAbs : Int) := by
    by_cases h : dp - 1 < 0
    · rw [decide_eq_true h, if_pos rfl]; omega
    · rw [decide_eq_false h, if_neg (by decide)]; omega
  have hX : decide (dp - 1 < 0) = true → 1 ≤ (dp - 1).natAbs := fun h => by have := of_decide_eq_true h; omega
  by_cases c : nd = 1
  · have h := fmtE_one B Bb T hT hBb (digs d) nd dp (decide (dp - 1 < 0)) (dp - 1).natAbs hnd c (by omega) hE hX neg w v hO
    rw [show max ((nd : Int) - 1) 0 = 0 by omega]
    exact h
  · rw [show max ((nd : Int) - 1) 0 = ((nd - 1 : Nat) : Int) by omega]
    exact fmtE_more B Bb T hT hBb (digs d) nd dp (decide (dp - 1 < 0)) (dp - 1).natAbs hnd (by omega) (by omega) (by omega) hE hX neg w v hO

set_option maxHeartbeats 2000000 in
set_option maxRecDepth 100000 in
theorem ftoa_normal_e (b : Nat) (neg : Bool) (ex fr : Nat) (hb : Bits3 b neg ex fr) (hx0 : 1 ≤ ex) (hx1 : ex ≤ 2046) (B : Nat) (w : World) (v : Value) (hown : w.ownsRow B 5 1 v 0 []) (hB : B ≤ w.heap.size) (hc : TCtx w) :
    Calls Tryd.prog 37 #[v, .float .f64 b, .int .u8 101, .int .i64 (-1)] w (FmtPost B w (eText neg (shortDP ex fr).1 (shortDP ex fr).2)) := by
  have hS := short_normal ex fr hx0 hx1 hb.frlt
  have hF := short_fits_normal ex fr hx0 hx1 hb.frlt
  generalize shortDP ex fr = dp at *
  obtain ⟨d, p⟩ := dp
  simp only [] at hF
  have Hc := Lib.hid hc
  have ecast : (((fr + 4503599627370496) * 2048 : Nat) : Int) = ((fr : Int) + 4503599627370496) * 2048 := by omega
  simp only [ecast] at hS
  have HS := Lib.hid hS
  have hsg := hb.hsg
  have hex := hb.hex
  have hfr := hb.hfr
  have hflt := hb.frlt
  have hblt := hb.lt
  have Hown := Lib.hid hown
  clear hc hS hown
  have hor : bits .or .u64 (fr : Int) 4503599627370496 = ((fr + 4503599627370496 : Nat) : Int) := by
    have h := bits_or_u64_nat fr 4503599627370496 (by omega) (by omega)
    rw [or_add fr hflt] at h
    exact h
  have HB := Lib.hid hb
  clear hb
  have e0 : ((ex : Int) == 0) = false := by rw [beq_eq_false_iff_ne]; omega
  have e1 : ((ex : Int) == 2047) = false := by rw [beq_eq_false_iff_ne]; omega
  go_enter Tryd.func37, Tryd.ntmps37
  go_wp2_with fail
  go_quiet (fail)
  have hown1 : (w.drewN nq).ownsRow B 5 1 v 0 [] := Hown.out
  have hB1 : B ≤ (w.drewN nq).heap.size := hB
  have hc1 : TCtx (w.drewN nq) := Hc.out.below ⟨rfl, rfl, rfl, Nat.le_refl _, fun _ _ => rfl⟩
  have hbel1 : Below B w (w.drewN nq) := ⟨rfl, rfl, rfl, Nat.le_refl _, fun _ _ => rfl⟩
  generalize w.drewN nq = w1 at hown1 hB1 hc1 hbel1 ⊢
  have Hc1 := Lib.hid hc1
  have Hown1 := Lib.hid hown1
  clear hown1 hc1
  have HLn := Lib.hid (len53 (fr + 4503599627370496) (by omega) (by omega))
  go_wp2_with fail
  refine (HLn.out _).mono ?_; rintro en w' ⟨rfl, rfl⟩
  go_wp2_with fail
  have hz32 : (w1.alloc (.cells zeros32 88)).heap[w1.heap.size]? = some (.cells zeros32 88 (0, 0)) := heap_alloc_new w1 _
  have hb32 : Below w1.heap.size w1 (w1.alloc (.cells zeros32 88)) := (Below.refl _ _).alloc (Nat.le_refl _) _
  have ho32 : (w1.alloc (.cells zeros32 88)).ownsRow B 5 1 v 0 [] := Hown1.out.alloc _
  have hbB : Below B w (w1.alloc (.cells zeros32 88)) := hbel1.alloc hB1 _
  have hsz : (w1.alloc (.cells zeros32 88)).heap.size = w1.heap.size + 1 := by simp
  have hc32 := Hc1.out.below hb32
  have hpos := heap_pos Hc1.out
  rw [zeros32_lit, show (ex : Int) + -1023 - 11 - 52 = (ex : Int) - 1086 by omega]
  generalize hw2 : w1.alloc (.cells zeros32 88) = w2 at *
  generalize hBb : w1.heap.size = Bb at *
  have hBBb : B ≤ Bb := hB1
  clear hw2 hb32
  refine (HS.out _ hc32).mono ?_
  rintro en w3 ⟨rfl, hb3⟩
  have hz3 : w3.heap[Bb]? = some (.cells zeros32 88 (0, 0)) := by rw [hb3.block Bb (by omega)]; exact hz32
  have ho3 := own_below ho32 hb3
  have hb03 : Below B w w3 := hbB.trans (hb3.mono (by omega))
  have hc3 := hc32.below hb3
  have hs3 := hb3.size
  have hsd := fun W => setDigits_calls d p hF.2.1 (by omega) (by omega) Bb 88 W
  unfold SetPost at hsd
  simp only [← digs_length] at hsd
  have hvlt : ∀ k, v.ownBlock = some k → k < Bb := fun k hk => by rw [← hBb]; exact (Hown1.out.lt k hk).2
  have hn20 := Lib.nDigits_le20 d hF.2.1
  have hd20 : (digs d).length ≤ 20 := by rw [digs_length]; have := stripTo_le (Lib.decDigits d) (Lib.nDigits d); omega
  have Hz3 := Lib.hid hz3
  have Ho3 := Lib.hid ho3
  have Hc3 := Lib.hid hc3
  have Hsd := Lib.hid hsd
  clear hz32 ho32 hc32 hb3 hz3 ho3 hc3 hsd
  go_wp2_with fail
  go_region_with (first
    | (go_at_call 33; refine (numDigits_calls d hF.1 hF.2.1 _ (by exact Hc3.out.below ⟨rfl, rfl, rfl, Nat.le_refl _, fun _ _ => rfl⟩)).mono ?_; rintro en w' ⟨rfl, rfl⟩)
    | (go_at_call 55; refine (Hsd.out _ (by exact Hz3.out)).mono ?_; rintro en w' ⟨rfl, hD, hbd⟩))
  all_goals
    have hbd' : Below Bb w3 w' := ⟨hbd.os, hbd.tape, hbd.output, hbd.size, hbd.block⟩
    have ho4 := own_belowB Ho3.out hvlt hbd'
    have hb4 := hb03.trans (hbd'.mono hBBb)
    have hsz4 := hbd'.size
    clear hbd hbd'
    have HD := Lib.hid hD
    have Ho4 := Lib.hid ho4
    clear hD ho4
    go_wp2_with fail
    have hO : Own B Bb 88 (digs d) w' w' v [] := ⟨Ho4.out, .inr (by unfold digs; exact HD.out.take _), Below.refl _ _, by omega⟩
    refine (fmtE_all B Bb 88 (by decide) (by omega) d p hF.1 hF.2.1 (by omega) (by omega) neg w' v hO).mono ?_
    rintro en w5 ⟨v5, rfl, hr5, hb5⟩
    go_wp2_with fail
    go_ret
    exact ⟨v5, rfl, hr5, hb4.trans hb5⟩


end Go.Proofs.YtlebpaneignfaaaDoor
