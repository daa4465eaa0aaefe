/- The walk of the law ItemBack where the item is none, or a hash. -/
import Derived.Test.YtjjphpklifbipaaDoorIe1
import Derived.BigQuiet
namespace Go.Proofs.YtjjphpklifbipaaDoor.Ia
open Go.ChangeShapes Go.WideShapes Go.ChangeAt Go.RowKit
theorem AllR.of_up {l : List Fd} (h0 : 0 < l.length) (h1 : l.length ≤ 256) (hu : Up l) (hs : ∀ f ∈ l, f.1.size ≤ 512 ∧ f.2.size ≤ 4096) : AllR l := by
  refine ⟨h0, h1, fun i hi => ⟨(hs _ (List.getElem_mem hi)).1, (hs _ (List.getElem_mem hi)).2, fun p hp e => ?_⟩⟩
  subst e
  unfold Up at hu
  rw [List.pairwise_iff_getElem] at hu
  exact hu p (p + 1) hp hi (by omega)
theorem AllR.sizes {l : List Fd} (h : AllR l) : ∀ f ∈ l, f.1.size ≤ 512 ∧ f.2.size ≤ 4096 := fun f hf => by
  obtain ⟨i, hi, rfl⟩ := List.mem_iff_getElem.1 hf
  exact ⟨(h.2.2 i hi).1, (h.2.2 i hi).2.1⟩
theorem put_right {s v : ByteArray} {l A B : List Fd} (hs : Split s l A [] B) (hu : Up l) (hz : ∀ f ∈ l, f.1.size ≤ 512 ∧ f.2.size ≤ 4096) (hl : l.length < 256) (h1 : s.size ≤ 512) (h2 : v.size ≤ 4096) : AllR (A ++ [(s, v)] ++ B) := by
  have e := hs.e
  have hL := hs.len
  refine AllR.of_up (by simp; omega) (by simp at hL ⊢; omega) (by rw [List.append_assoc]; exact hs.up (t := v) hu) (fun f hf => ?_)
  rw [List.append_assoc, List.mem_append] at hf
  rcases hf with hf | hf
  · exact hz f (by rw [e]; simp [hf])
  · rcases List.mem_cons.1 hf with rfl | hf
    · exact ⟨h1, h2⟩
    · have hf2 : f ∈ B := hf
      exact hz f (by rw [e]; exact List.mem_append.2 (.inr hf2))
theorem sum_k0 (t : ByteArray) (n : Int) (h0 : -9223372036854775808 ≤ n) (h1 : n ≤ 9223372036854775807) : sumOf 0 t n = (n, 0) := by
  unfold sumOf addOf
  rw [if_pos rfl, Int.zero_add, if_pos ⟨h0, h1⟩]
theorem sum_k2 (t : ByteArray) (n : Int) : sumOf 2 t n = (0, 91) := by
  unfold sumOf
  rw [if_neg (by omega), if_neg (by omega)]
def oneV : ByteArray := ⟨#[118]⟩
theorem txtV (s : ByteArray) : txt [(s, oneV)] = ⟨#[118]⟩ := rfl
theorem thereV (s : ByteArray) : there [(s, oneV)] = true := rfl
theorem ex_nat2 (n : Nat) : ∃ q, n = q := ⟨n, rfl⟩
theorem ex_l (s : List Fd) : ∃ q, s = q := ⟨s, rfl⟩
set_option maxHeartbeats 16000000 in
set_option maxRecDepth 100000 in
theorem back2 (w : World) (hc : Ctx w) (t : ByteArray) (l : List Fd) (a : Option Addr) (c : Nat) (hI : InF w a l) (hcap : l.length ≤ c) (hcap2 : c ≤ 9223372036854775807) (n : Int) (hn0 : -9223372036854775808 ≤ n) (hn1 : n ≤ 9223372036854775807) (s : ByteArray) (hs9 : s.size ≤ 9223372036854775807) (hF : Fit ⟨2, t, l⟩) :
    Calls Tryd.prog 5 #[.agg #[.int .i64 2, .string t, .slice a l.length c], .int .i64 n, .string s] w fun e w' => e = .returned (.bool true) ∧ Below w.heap.size w w' := by
  have H := Lib.hid (fun W (h : Below w.heap.size w W) => hc.below h)
  have HI := Lib.hid (fun W (h : Below w.heap.size w W) => hI.below (Nat.le_refl _) h)
  have HB0 := Lib.hid (fun T => Bx.new (W := w) (i := ⟨2, t, l⟩) hI hcap hcap2 T)
  have HFt := Lib.hid (fun W (h : Below w.heap.size w W) => fits_calls W 2 t a c _ l rfl (hI.below (Nat.le_refl _) h) true ⟨fun _ => hF, fun _ => rfl⟩)
  have HGi := Lib.hid (fun W (h : Below w.heap.size w W) => great_calls W 2 t a c _ l rfl (hI.below (Nat.le_refl _) h))
  have HFi := Lib.hid hF
  clear hc hI hF
  go_enter Tryd.func5, Tryd.ntmps5
  go_wp2_with fail
  refine (alive_calls _ (H.out _ (bbox _))).mono ?_
  rintro e w1 ⟨rfl, hb⟩
  have X3 := Lib.hid ((HB0.out _).below hb)
  have B := Lib.hid (bstep (bbox _) hb)
  clear hb HB0
  have c0 := X3.out.cells.c0
  have c1 := X3.out.cells.c1
  have c2 := X3.out.cells.c2
  go_wp2_with fail
  refine (HGi.out _ B.out).mono ?_
  rintro e w2 ⟨he, hb⟩
  have X3 := Lib.hid (X3.out.below hb)
  have B := Lib.hid (bstep B.out hb)
  clear hb c0 c1 c2
  rcases he with rfl | ⟨rfl, -⟩
  · go_wp2_with fail
    go_ret
    exact ⟨rfl, B.out⟩
  have c0 := X3.out.cells.c0
  have c1 := X3.out.cells.c1
  have c2 := X3.out.cells.c2
  go_wp2_with fail
  refine (HFt.out _ B.out).mono ?_
  rintro e w3 ⟨rfl, hb⟩
  have X3 := Lib.hid (X3.out.below hb)
  have B := Lib.hid (bstep B.out hb)
  clear hb c0 c1 c2 HFt HGi
  by_cases hs : 512 < s.size
  · have hsc : (512 : Int) < (s.size : Int) := by omega
    go_wp2_with fail
    go_ret
    exact ⟨rfl, B.out⟩
  have hsc : ¬ (512 : Int) < (s.size : Int) := by omega
  have c0 := X3.out.cells.c0
  have c1 := X3.out.cells.c1
  have c2 := X3.out.cells.c2
  have hAR : AllR l := HFi.out.kinds.elim (fun h => by have h1 := h.1; cases h1) (fun h => h.elim (fun h => h.2.2) (fun h => by have h1 := h.1; cases h1))
  have ht0 : t = ⟨#[]⟩ := HFi.out.kinds.elim (fun h => by have h1 := h.1; cases h1) (fun h => h.elim (fun h => h.2.1) (fun h => by have h1 := h.1; cases h1))
  have HAl := Lib.hid hAR
  have HT0 := Lib.hid ht0
  have hl6 : l.length ≤ 256 := hAR.2.1
  have hlp : 0 < l.length := hAR.1
  clear hAR ht0
  obtain ⟨x, hx⟩ : ∃ x : Int, 0 = x := ⟨0, rfl⟩
  obtain ⟨y, hye⟩ : ∃ y : Int, 91 = y := ⟨91, rfl⟩
  have HXY : Hid (sumOf 2 t n = (x, y)) := Lib.hid (by rw [← hx, ← hye]; exact sum_k2 t n)
  have hy : (y != 0) = true := by rw [← hye]; rfl
  clear hx hye
  have HAd := Lib.hid (fun W (h : Below w.heap.size w W) => add_err W (H.out W h) 2 t a c _ l rfl (by have := HFi.out.len; have h5 : l.length ≤ 256 := this; omega) (HI.out W h) n hn0 hn1 (by have h5 : t.size ≤ 4096 := HFi.out.tlen; omega) x y HXY.out hy)
  go_wp2_with fail
  refine (HAd.out _ B.out).mono ?_
  rintro e w4 ⟨v4, rfl, hv, hb⟩
  have X3 := Lib.hid (X3.out.below hb)
  have B := Lib.hid (bstep B.out hb)
  clear hb c0 c1 c2 HAd
  obtain ⟨a7, c7, rfl, -, -, -⟩ := hv
  have X3 := Lib.hid (fun O => X3.out.alloc O)
  have B := Lib.hid (fun O => bstep B.out (bbox (w := w4) O))
  have c0 := fun O => (X3.out O).cells.c0
  have c1 := fun O => (X3.out O).cells.c1
  have c2 := fun O => (X3.out O).cells.c2
  have hyf : (y == 0) = false := by rw [beq_eq_false_iff_ne]; rw [bne_iff_ne] at hy; exact hy
  obtain ⟨A, M, B0, hsp⟩ := split_of s HFi.out.up
  have HGt := Lib.hid (fun W (h : Below w.heap.size w W) => get_calls W 2 t a c _ s l A M B0 hsp rfl (by omega) (HI.out W h) (by omega))
  go_wp2_with fail
  refine (HGt.out _ (B.out _)).mono ?_
  rintro e w9 ⟨rfl, hb⟩
  have X3 := Lib.hid ((X3.out _).below hb)
  have B := Lib.hid (bstep (B.out _) hb)
  clear hb c0 c1 c2 HGt
  have c0 := X3.out.cells.c0
  have c1 := X3.out.cells.c1
  have c2 := X3.out.cells.c2
  rcases M_cases hsp with rfl | ⟨z, rfl⟩
  case inr =>
    have hth : there [(s, z)] = true := rfl
    rw [hth]
    go_wp2_with fail
    go_ret
    exact ⟨rfl, B.out⟩
  have hth : there ([] : List Fd) = false := rfl
  rw [hth]
  by_cases hl256 : l.length < 256
  · have hup : Up l := HAl.out.up
    have hsz9 := HAl.out.sizes
    have ht0 := HT0.out
    have B9 := B.out
    clear hth ht0
    go_wp2_with fail
    have HPt := Lib.hid (fun W (h : Below w.heap.size w W) => put_fits W 2 t a c _ s oneV l A [] B0 hsp rfl hcap hcap2 (by omega) (HI.out W h) (by omega) ⟨⟨by omega, by decide⟩, .inr hl256⟩)
    have HAR := Lib.hid (put_right (v := oneV) hsp hup hsz9 hl256 (by omega) (by decide))
    have hSp := hsp.put (t := oneV)
    have hrl : (A ++ [(s, oneV)] ++ B0).length ≤ 256 := HAR.out.2.1
    obtain ⟨r, hr⟩ := ex_l (A ++ [(s, oneV)] ++ B0)
    have HGt2 := Lib.hid (fun W a2 c2 (hI2 : InF W a2 r) => get_calls W 2 ⟨#[]⟩ a2 c2 _ s r A [(s, oneV)] B0 (by rw [← hr]; exact hSp) rfl (by rw [← hr]; omega) hI2 (.inr rfl))
    have HDr := Lib.hid (fun W a2 c2 (hI2 : InF W a2 r) (hc1 : r.length ≤ c2) (hc2 : c2 ≤ 9223372036854775807) => (drop_some W 2 ⟨#[]⟩ a2 c2 _ s r A [(s, oneV)] B0 (by rw [← hr]; exact hSp) rfl (by rw [← hr]; simp; have h5 := hsp.len; simp at h5; omega) hc1 hc2 (by rw [← hr]; omega) hI2 (.inr rfl) rfl).mono (fun e w' h => (by
      obtain ⟨v, h1, h2, h3⟩ := h
      have e5 : A ++ B0 = l := by rw [hsp.e]; simp
      rw [e5] at h2
      exact ⟨v, h1, by rw [HT0.out]; exact h2, h3⟩ : ∃ v, e = .returned (.tuple #[v, .bool true, .int .i64 0]) ∧ ItV w' v ⟨2, t, l⟩ ∧ Below W.heap.size W w')))
    have HRr := Lib.hid (fun W a2 c2 (hI2 : InF W a2 r) => right_calls W 2 ⟨#[]⟩ a2 c2 _ r rfl hI2 true ⟨fun _ => .inr ⟨rfl, empty_iff.2 rfl, by rw [← hr]; exact HAR.out⟩, fun _ => rfl⟩)
    have hsum : sumC r = sumC l + (17 + s.size) := by
      rw [← hr, sumC_app, sumC_app, hsp.e, sumC_app, sumC_app]
      simp [sumC, oneV]
      have : (⟨#[118]⟩ : ByteArray).size = 1 := rfl
      omega
    have hcl : sumC l ≤ 2000000 := by
      have h1 := sumC_bound l (fun j hj => by have h2 := hsz9 _ (List.getElem_mem hj); exact ⟨by omega, by omega⟩)
      omega
    have HCr := Lib.hid (fun W a2 c2 (hI2 : InF W a2 r) => cost_hash W ⟨#[107]⟩ ⟨#[]⟩ a2 c2 _ r rfl (by decide) (by omega) (by rw [← hr]; omega) hI2)
    have HCi := Lib.hid (fun W (h : Below w.heap.size w W) => cost_hash W ⟨#[107]⟩ t a c _ l rfl (by decide) (by omega) (by omega) (HI.out W h))
    obtain ⟨q, hq⟩ := ex_nat2 (48 + (⟨#[107]⟩ : ByteArray).size + sumC l)
    have hqb : q ≤ 3000000 := by have : (⟨#[107]⟩ : ByteArray).size = 1 := rfl; omega
    have hqr : ((48 + (⟨#[107]⟩ : ByteArray).size + sumC r : Nat) : Int) = (q : Int) + (17 + (s.size : Int)) := by rw [← hq, hsum];  push_cast; omega
    simp only [hqr] at HCr
    simp only [hq] at HCi
    have hwa : IntKind.i64.wrap (17 + (s.size : Int)) = 17 + (s.size : Int) := by rw [IntKind.wrap_i64]; omega
    have hwb : IntKind.i64.wrap ((q : Int) + (17 + (s.size : Int)) - (q : Int)) = 17 + (s.size : Int) := by rw [IntKind.wrap_i64]; omega
    have hr9 := Lib.hid hr
    rw [hr] at HPt
    have hth0 : (!there ([] : List Fd)) = true := rfl
    rw [hth0] at HPt
    rw [txtV, thereV] at HGt2
    clear hsp hup hsz9 hl256 hSp hrl hr hsum hcl hqr hq HAR hth0
    refine (HPt.out _ B9).mono ?_
    rintro e w11 ⟨v11, rfl, hv, hb⟩
    have X3 := Lib.hid (X3.out.below hb)
    have B := Lib.hid (bstep B.out hb)
    clear hb c0 c1 c2
    obtain ⟨a16, c16, rfl, h1, h2, h3⟩ := hv
    have h1 : r.length ≤ c16 := h1
    have h3 : InF w11 a16 r := h3
    have hlt16 : w.heap.size < w11.heap.size := X3.out.cells.lt
    have X16 := Lib.hid (fun T => Bx.new (W := w11) (i := ⟨2, ⟨#[]⟩, r⟩) h3 h1 h2 T)
    have X3 := Lib.hid (fun O => X3.out.alloc O)
    have B := Lib.hid (fun O => bstep B.out (bbox (w := w11) O))
    have c0 := fun O => (X3.out O).cells.c0
    have c1 := fun O => (X3.out O).cells.c1
    have c2 := fun O => (X3.out O).cells.c2
    clear h1 h2 h3
    go_wp2_with fail
    refine (HGt2.out _ a16 c16 (X16.out _).inF).mono ?_
    rintro e w12 ⟨rfl, hb⟩
    have X3 := Lib.hid ((X3.out _).below hb)
    have X16 := Lib.hid ((X16.out _).below hb)
    have B := Lib.hid (bstep (B.out _) hb)
    clear hb c0 c1 c2
    generalize w11.heap.size = N16 at *
    have c0 := X3.out.cells.c0
    have c1 := X3.out.cells.c1
    have c2 := X3.out.cells.c2
    have e0 := X16.out.cells.c0
    have e1 := X16.out.cells.c1
    have e2 := X16.out.cells.c2
    go_wp2_with fail
    refine (HDr.out _ a16 c16 X16.out.inF X16.out.cap X16.out.cap2).mono ?_
    rintro e w13 ⟨v13, rfl, hv, hb⟩
    have X3 := Lib.hid (X3.out.below hb)
    have X16 := Lib.hid (X16.out.below hb)
    have B := Lib.hid (bstep B.out hb)
    clear hb c0 c1 c2 e0 e1 e2
    obtain ⟨a22, c22, rfl, h1, h2, h3⟩ := hv
    have hlt22 : N16 < w13.heap.size := X16.out.cells.lt
    have hlt23 : w.heap.size < w13.heap.size := X3.out.cells.lt
    have X22 := Lib.hid (fun T => Bx.new (W := w13) (i := ⟨2, t, l⟩) h3 h1 h2 T)
    have X3 := Lib.hid (fun O => X3.out.alloc O)
    have X16 := Lib.hid (fun O => X16.out.alloc O)
    have B := Lib.hid (fun O => bstep B.out (bbox (w := w13) O))
    clear h1 h2 h3
    go_wp2_with fail
    obtain ⟨F', G1, G2, G3⟩ := ovr (w13.alloc (.cells #[.int .i64 2, .string t, .slice a22 l.length c22] 24))
    have GF3 := Lib.hid G3
    have GB := Lib.hid (fun x => bstep (B.out _) (G1 x))
    have Y3 := Lib.hid (fun x => (X3.out _).below (G1 x))
    have Y16 := Lib.hid (fun x => (X16.out _).below (G1 x))
    have Y22 := Lib.hid (fun x => (X22.out _).below (G1 x))
    clear X3 X16 X22 B G1 G3
    generalize w13.heap.size = N22 at *
    have c0 := fun x => (Y3.out x).cells.c0
    have c1 := fun x => (Y3.out x).cells.c1
    have c2 := fun x => (Y3.out x).cells.c2
    have e0 := fun x => (Y16.out x).cells.c0
    have e1 := fun x => (Y16.out x).cells.c1
    have e2 := fun x => (Y16.out x).cells.c2
    have f0 := fun x => (Y22.out x).cells.c0
    have f1 := fun x => (Y22.out x).cells.c1
    have f2 := fun x => (Y22.out x).cells.c2
    have GQ1 := Lib.hid (fun x => HRr.out (F' x) a16 c16 (Y16.out x).inF)
    have GQ2 := Lib.hid (fun x => same_calls (F' x) 2 2 t t a22 a c22 c l.length l.length l l rfl rfl (by omega) (by omega) (Y22.out x).inF (HI.out _ (GB.out x)) true ⟨fun _ => ⟨rfl, rfl, rfl⟩, fun _ => rfl⟩)
    have GQ3 := Lib.hid (fun x => HCr.out (F' x) a16 c16 (Y16.out x).inF)
    have GQ4 := Lib.hid (fun x => HCi.out (F' x) (GB.out x))
    refine wp_region_cls F' (by kernel_rfl) (by kernel_rfl) G2 ?_
    repeat (go_big_quiet_step (first | (go_at_call 11; with_reducible exact q_ovr GF3.out (GQ1.out _)) | (go_at_call 13; with_reducible exact q_ovr GF3.out (GQ2.out _)) | (go_at_call 15; first | with_reducible exact q_ovr GF3.out (GQ3.out _) | with_reducible exact q_ovr GF3.out (GQ4.out _))))
    refine wpQuiet_nil ?_
    intro _ hw'
    obtain ⟨x2, hw9⟩ := hw'
    subst hw9
    go_wp2_with fail
    go_ret
    exact ⟨rfl, GB.out x2⟩
  · have h256 : l.length = 256 := by omega
    have hlb : ((l.length : Int) == 256) = true := by rw [h256]; rfl
    have HPt := Lib.hid (fun W (h : Below w.heap.size w W) => put_big W 2 t a c _ s oneV l A [] B0 hsp rfl (by omega) (HI.out W h) (.inr rfl) (fun h => by rcases h.2 with h | h; cases h; omega))
    clear h256 hl256 hth
    go_wp2_with fail
    refine (HPt.out _ B.out).mono ?_
    rintro e w11 ⟨v11, rfl, hv, hb⟩
    have X3 := Lib.hid (X3.out.below hb)
    have B := Lib.hid (bstep B.out hb)
    clear hb c0 c1 c2
    obtain ⟨a16, c16, rfl, -, -, -⟩ := hv
    have X3 := Lib.hid (fun O => X3.out.alloc O)
    have B := Lib.hid (fun O => bstep B.out (bbox (w := w11) O))
    have c0 := fun O => (X3.out O).cells.c0
    have c1 := fun O => (X3.out O).cells.c1
    have c2 := fun O => (X3.out O).cells.c2
    go_wp2_with fail
    go_ret
    exact ⟨rfl, B.out _⟩
end Go.Proofs.YtjjphpklifbipaaDoor.Ia
