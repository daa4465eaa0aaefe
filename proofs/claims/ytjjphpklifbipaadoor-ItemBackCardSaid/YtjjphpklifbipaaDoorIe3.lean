/- The walk of the law ItemBack where the item is none; at any item. -/
import Derived.Test.YtjjphpklifbipaaDoorIe2
namespace Go.Proofs.YtjjphpklifbipaaDoor.Ia
open Go.ChangeShapes Go.WideShapes Go.ChangeAt Go.RowKit
set_option maxHeartbeats 16000000 in
set_option maxRecDepth 100000 in
theorem back0 (w : World) (hc : Ctx w) (a : Option Addr) (c : Nat) (hcap2 : c ≤ 9223372036854775807) (n : Int) (hn0 : -9223372036854775808 ≤ n) (hn1 : n ≤ 9223372036854775807) (s : ByteArray) (hs9 : s.size ≤ 9223372036854775807) :
    Calls Tryd.prog 5 #[.agg #[.int .i64 0, .string ⟨#[]⟩, .slice a 0 c], .int .i64 n, .string s] w fun e w' => e = .returned (.bool true) ∧ Below w.heap.size w w' := by
  have H := Lib.hid (fun W (h : Below w.heap.size w W) => hc.below h)
  have HB0 := Lib.hid (fun T => Bx.new (W := w) (i := ⟨0, ⟨#[]⟩, []⟩) (a := a) (InF.nil _ _) (Nat.zero_le c) hcap2 T)
  have HFt := Lib.hid (fun W (_ : Below w.heap.size w W) => fits_calls W 0 ⟨#[]⟩ a c 0 [] rfl (InF.nil _ _) true ⟨fun _ => .inr ⟨rfl, empty_iff.2 rfl, rfl⟩, fun _ => rfl⟩)
  have HGi := Lib.hid (fun W (_ : Below w.heap.size w W) => great_calls W 0 ⟨#[]⟩ a c 0 [] rfl (InF.nil _ _))
  clear hc
  go_enter Tryd.func5, Tryd.ntmps5
  go_wp2_with fail
  refine (alive_calls _ (H.out _ (bbox _))).mono ?_
  rintro e w1 ⟨rfl, hb⟩
  have X3 := Lib.hid ((HB0.out _).below hb)
  have B := Lib.hid (bstep (bbox _) hb)
  clear hb HB0
  have c0 := X3.out.cells.c0
  have c1 := X3.out.cells.c1
  have c2 := X3.out.cells.c2
  go_wp2_with fail
  refine (HGi.out _ B.out).mono ?_
  rintro e w2 ⟨he, hb⟩
  have X3 := Lib.hid (X3.out.below hb)
  have B := Lib.hid (bstep B.out hb)
  clear hb c0 c1 c2
  rcases he with rfl | ⟨rfl, -⟩
  · go_wp2_with fail
    go_ret
    exact ⟨rfl, B.out⟩
  have c0 := X3.out.cells.c0
  have c1 := X3.out.cells.c1
  have c2 := X3.out.cells.c2
  go_wp2_with fail
  refine (HFt.out _ B.out).mono ?_
  rintro e w3 ⟨rfl, hb⟩
  have X3 := Lib.hid (X3.out.below hb)
  have B := Lib.hid (bstep B.out hb)
  clear hb c0 c1 c2 HFt HGi
  by_cases hs : 512 < s.size
  · have hsc : (512 : Int) < (s.size : Int) := by omega
    go_wp2_with fail
    go_ret
    exact ⟨rfl, B.out⟩
  have hsc : ¬ (512 : Int) < (s.size : Int) := by omega
  have c0 := X3.out.cells.c0
  have c1 := X3.out.cells.c1
  have c2 := X3.out.cells.c2
  obtain ⟨x, hx⟩ : ∃ x : Int, n = x := ⟨n, rfl⟩
  have hx0 : -9223372036854775808 ≤ x := by omega
  have hx1 : x ≤ 9223372036854775807 := by omega
  have HXY : Hid (sumOf 0 (⟨#[]⟩ : ByteArray) n = (x, 0)) := Lib.hid (by rw [← hx]; exact sum_k0 _ n hn0 hn1)
  clear hx
  have HAd := Lib.hid (fun W (h : Below w.heap.size w W) => add_ok W (H.out W h) 0 ⟨#[]⟩ a c 0 n hn0 hn1 (by decide) x hx0 hx1 HXY.out)
  go_wp2_with fail
  refine (HAd.out _ B.out).mono ?_
  rintro e w4 ⟨rfl, hb⟩
  have X3 := Lib.hid (X3.out.below hb)
  have B := Lib.hid (bstep B.out hb)
  clear hb c0 c1 c2 HAd
  have Xs := ex_ba (⟨(Lib.itoa x).toArray⟩ : ByteArray)
  obtain ⟨sx, hsx⟩ := Xs
  rw [hsx]
  have HSX := Lib.hid hsx
  have hsz : sx.size ≤ 4096 := by rw [← hsx]; exact itoa_le x hx0 hx1
  clear hsx
  have X7 := Lib.hid (fun T => Bx.new (W := w4) (i := ⟨1, sx, []⟩) (a := none) (c := 0) (InF.nil _ _) (Nat.zero_le _) (Nat.zero_le _) T)
  have hlt7 : w.heap.size < w4.heap.size := X3.out.cells.lt
  have X3 := Lib.hid (fun O => X3.out.alloc O)
  have B := Lib.hid (fun O => bstep B.out (bbox (w := w4) O))
  have c0 := fun O => (X3.out O).cells.c0
  have c1 := fun O => (X3.out O).cells.c1
  have c2 := fun O => (X3.out O).cells.c2
  have HRt := Lib.hid (fun W => right_text W sx hsz)
  go_wp2_with fail
  refine (HRt.out _).mono ?_
  rintro e w5 ⟨rfl, hb⟩
  have X3 := Lib.hid ((X3.out _).below hb)
  have X7 := Lib.hid ((X7.out _).below hb)
  have B := Lib.hid (bstep (B.out _) hb)
  clear hb c0 c1 c2 HRt
  generalize w4.heap.size = N7 at *
  have c0 := X3.out.cells.c0
  have c1 := X3.out.cells.c1
  have c2 := X3.out.cells.c2
  have q0 := X7.out.cells.c0
  have q1 := X7.out.cells.c1
  have q2 := X7.out.cells.c2
  have hcase : (-9223372036854775808 : Int) < n ∨ ¬ (-9223372036854775808 : Int) < n := Classical.em _
  rcases hcase with hnm | hnm
  · have hsp : Split s ([] : List Fd) [] [] [] := ⟨rfl, by simp, by simp, by simp, by simp⟩
    have HGt := Lib.hid (fun W => get_calls W 0 ⟨#[]⟩ a c 0 s [] [] [] [] hsp rfl (by simp) (InF.nil _ _) (.inl rfl))
    have hth : there ([] : List Fd) = false := rfl
    rw [hth] at HGt
    go_wp2_with fail
    refine (HGt.out _).mono ?_
    rintro e w9 ⟨rfl, hb⟩
    have X3 := Lib.hid (X3.out.below hb)
    have B := Lib.hid (bstep B.out hb)
    clear hb c0 c1 c2 HGt q0 q1 q2
    have c0 := X3.out.cells.c0
    have c1 := X3.out.cells.c1
    have c2 := X3.out.cells.c2
    have hSp := hsp.put (t := oneV)
    have HAR : Hid (AllR ([(s, oneV)] : List Fd)) := Lib.hid (put_right (v := oneV) hsp List.Pairwise.nil (by simp) (by simp) (by omega) (by decide))
    have HPt := Lib.hid (fun W => put_fits W 0 ⟨#[]⟩ a c 0 s oneV [] [] [] [] hsp rfl (Nat.zero_le c) hcap2 (by simp) (InF.nil _ _) (.inl rfl) ⟨⟨by omega, by decide⟩, .inr (by simp)⟩)
    obtain ⟨r, hr⟩ := ex_l ([(s, oneV)] : List Fd)
    have hr' : [] ++ [(s, oneV)] ++ ([] : List Fd) = r := hr
    have hrl : r.length = 1 := by rw [← hr]; rfl
    have HGt2 := Lib.hid (fun W a2 c2 (hI2 : InF W a2 r) => get_calls W 2 ⟨#[]⟩ a2 c2 _ s r [] [(s, oneV)] [] (by rw [← hr]; exact hSp) rfl (by omega) hI2 (.inr rfl))
    have HDr := Lib.hid (fun W a2 c2 (hI2 : InF W a2 r) => drop_last W 2 ⟨#[]⟩ a2 c2 _ s r [] [(s, oneV)] [] (by rw [← hr]; exact hSp) rfl hrl hI2 (.inr rfl) rfl)
    have HRr := Lib.hid (fun W a2 c2 (hI2 : InF W a2 r) => right_calls W 2 ⟨#[]⟩ a2 c2 _ r rfl hI2 true ⟨fun _ => .inr ⟨rfl, empty_iff.2 rfl, by rw [← hr]; exact HAR.out⟩, fun _ => rfl⟩)
    have hsum : sumC r = 17 + s.size := by
      rw [← hr]
      simp [sumC, oneV]
      have : (⟨#[118]⟩ : ByteArray).size = 1 := rfl
      omega
    have HCr := Lib.hid (fun W a2 c2 (hI2 : InF W a2 r) => cost_hash W ⟨#[107]⟩ ⟨#[]⟩ a2 c2 _ r rfl (by decide) (by omega) (by omega) hI2)
    have HCi := Lib.hid (fun W => cost_none W ⟨#[107]⟩ ⟨#[]⟩ (.slice a 0 c) (by decide))
    obtain ⟨q, hq⟩ := ex_nat2 (48 + (⟨#[107]⟩ : ByteArray).size)
    have hqb : q ≤ 3000000 := by have : (⟨#[107]⟩ : ByteArray).size = 1 := rfl; omega
    have hqr : ((48 + (⟨#[107]⟩ : ByteArray).size + sumC r : Nat) : Int) = (q : Int) + (17 + (s.size : Int)) := by rw [← hq, hsum]; push_cast; omega
    simp only [hqr] at HCr
    simp only [hq] at HCi
    have hwa : IntKind.i64.wrap (17 + (s.size : Int)) = 17 + (s.size : Int) := by rw [IntKind.wrap_i64]; omega
    have hwb : IntKind.i64.wrap ((q : Int) + (17 + (s.size : Int)) - (q : Int)) = 17 + (s.size : Int) := by rw [IntKind.wrap_i64]; omega
    rw [hr'] at HPt
    have hth0 : (!there ([] : List Fd)) = true := rfl
    rw [hth0] at HPt
    rw [txtV, thereV] at HGt2
    have hrc : (r.length : Int) = 1 := by omega
    clear hsp hSp hr hr' hsum hqr hq HAR hth0 hth hrl hrc
    go_wp2_with fail
    refine (HPt.out _).mono ?_
    rintro e w11 ⟨v11, rfl, hv, hb⟩
    have X3 := Lib.hid (X3.out.below hb)
    have B := Lib.hid (bstep B.out hb)
    clear hb c0 c1 c2
    obtain ⟨a16, c16, rfl, h1, h2, h3⟩ := hv
    have h1 : r.length ≤ c16 := h1
    have h3 : InF w11 a16 r := h3
    have hlt16 : w.heap.size < w11.heap.size := X3.out.cells.lt
    have X16 := Lib.hid (fun T => Bx.new (W := w11) (i := ⟨2, ⟨#[]⟩, r⟩) h3 h1 h2 T)
    have X3 := Lib.hid (fun O => X3.out.alloc O)
    have B := Lib.hid (fun O => bstep B.out (bbox (w := w11) O))
    have c0 := fun O => (X3.out O).cells.c0
    have c1 := fun O => (X3.out O).cells.c1
    have c2 := fun O => (X3.out O).cells.c2
    clear h1 h2 h3
    go_wp2_with fail
    refine (HGt2.out _ a16 c16 (X16.out _).inF).mono ?_
    rintro e w12 ⟨rfl, hb⟩
    have X3 := Lib.hid ((X3.out _).below hb)
    have X16 := Lib.hid ((X16.out _).below hb)
    have B := Lib.hid (bstep (B.out _) hb)
    clear hb c0 c1 c2
    generalize w11.heap.size = N16 at *
    have c0 := X3.out.cells.c0
    have c1 := X3.out.cells.c1
    have c2 := X3.out.cells.c2
    have e0 := X16.out.cells.c0
    have e1 := X16.out.cells.c1
    have e2 := X16.out.cells.c2
    go_wp2_with fail
    refine (HDr.out _ a16 c16 X16.out.inF).mono ?_
    rintro e w13 ⟨rfl, hb⟩
    have X3 := Lib.hid (X3.out.below hb)
    have X16 := Lib.hid (X16.out.below hb)
    have B := Lib.hid (bstep B.out hb)
    clear hb c0 c1 c2 e0 e1 e2
    have hlt22 : N16 < w13.heap.size := X16.out.cells.lt
    have hlt23 : w.heap.size < w13.heap.size := X3.out.cells.lt
    have X22 := Lib.hid (fun T => Cell3.new w13 (.int .i64 0) (.string ⟨#[]⟩) (.slice none 0 0) T)
    have X3 := Lib.hid (fun O => X3.out.alloc O)
    have X16 := Lib.hid (fun O => X16.out.alloc O)
    have B := Lib.hid (fun O => bstep B.out (bbox (w := w13) O))
    go_wp2_with fail
    obtain ⟨F', G1, G2, G3⟩ := ovr (w13.alloc (.cells #[.int .i64 0, .string ⟨#[]⟩, .slice none 0 0] 24))
    have GF3 := Lib.hid G3
    have GB := Lib.hid (fun x => bstep (B.out _) (G1 x))
    have Y3 := Lib.hid (fun x => (X3.out _).below (G1 x))
    have Y16 := Lib.hid (fun x => (X16.out _).below (G1 x))
    have Y22 := Lib.hid (fun x => (X22.out _).below (G1 x))
    clear X3 X16 X22 B G1 G3
    generalize w13.heap.size = N22 at *
    have c0 := fun x => (Y3.out x).cells.c0
    have c1 := fun x => (Y3.out x).cells.c1
    have c2 : ∀ x, (F' x).cell? ⟨w.heap.size, 2, none⟩ = some (.slice a 0 c) := fun x => (Y3.out x).cells.c2
    have e0 := fun x => (Y16.out x).cells.c0
    have e1 := fun x => (Y16.out x).cells.c1
    have e2 := fun x => (Y16.out x).cells.c2
    have f0 := fun x => (Y22.out x).c0
    have f1 := fun x => (Y22.out x).c1
    have f2 := fun x => (Y22.out x).c2
    have GQ1 := Lib.hid (fun x => HRr.out (F' x) a16 c16 (Y16.out x).inF)
    have GQ2 := Lib.hid (fun x => same_calls (F' x) 0 0 ⟨#[]⟩ ⟨#[]⟩ none a 0 c 0 0 [] [] rfl rfl (by omega) (by omega) (InF.nil _ _) (InF.nil _ _) true ⟨fun _ => ⟨rfl, rfl, rfl⟩, fun _ => rfl⟩)
    have GQ3 := Lib.hid (fun x => HCr.out (F' x) a16 c16 (Y16.out x).inF)
    have GQ4 := Lib.hid (fun x => HCi.out (F' x))
    refine wp_region_cls F' (by kernel_rfl) (by kernel_rfl) G2 ?_
    repeat (go_big_quiet_step (first | (go_at_call 11; with_reducible exact q_ovr GF3.out (GQ1.out _)) | (go_at_call 13; with_reducible exact q_ovr GF3.out (GQ2.out _)) | (go_at_call 15; first | with_reducible exact q_ovr GF3.out (GQ3.out _) | with_reducible exact q_ovr GF3.out (GQ4.out _))))
    refine wpQuiet_nil ?_
    intro _ hw'
    obtain ⟨x2, hw9⟩ := hw'
    subst hw9
    go_wp2_with fail
    go_ret
    exact ⟨rfl, GB.out x2⟩
  · have hsp : Split s ([] : List Fd) [] [] [] := ⟨rfl, by simp, by simp, by simp, by simp⟩
    have HGt := Lib.hid (fun W => get_calls W 0 ⟨#[]⟩ a c 0 s [] [] [] [] hsp rfl (by simp) (InF.nil _ _) (.inl rfl))
    have hth : there ([] : List Fd) = false := rfl
    rw [hth] at HGt
    go_wp2_with fail
    refine (HGt.out _).mono ?_
    rintro e w9 ⟨rfl, hb⟩
    have X3 := Lib.hid (X3.out.below hb)
    have B := Lib.hid (bstep B.out hb)
    clear hb c0 c1 c2 HGt q0 q1 q2
    have c0 := X3.out.cells.c0
    have c1 := X3.out.cells.c1
    have c2 := X3.out.cells.c2
    have hSp := hsp.put (t := oneV)
    have HAR : Hid (AllR ([(s, oneV)] : List Fd)) := Lib.hid (put_right (v := oneV) hsp List.Pairwise.nil (by simp) (by simp) (by omega) (by decide))
    have HPt := Lib.hid (fun W => put_fits W 0 ⟨#[]⟩ a c 0 s oneV [] [] [] [] hsp rfl (Nat.zero_le c) hcap2 (by simp) (InF.nil _ _) (.inl rfl) ⟨⟨by omega, by decide⟩, .inr (by simp)⟩)
    obtain ⟨r, hr⟩ := ex_l ([(s, oneV)] : List Fd)
    have hr' : [] ++ [(s, oneV)] ++ ([] : List Fd) = r := hr
    have hrl : r.length = 1 := by rw [← hr]; rfl
    have HGt2 := Lib.hid (fun W a2 c2 (hI2 : InF W a2 r) => get_calls W 2 ⟨#[]⟩ a2 c2 _ s r [] [(s, oneV)] [] (by rw [← hr]; exact hSp) rfl (by omega) hI2 (.inr rfl))
    have HDr := Lib.hid (fun W a2 c2 (hI2 : InF W a2 r) => drop_last W 2 ⟨#[]⟩ a2 c2 _ s r [] [(s, oneV)] [] (by rw [← hr]; exact hSp) rfl hrl hI2 (.inr rfl) rfl)
    have HRr := Lib.hid (fun W a2 c2 (hI2 : InF W a2 r) => right_calls W 2 ⟨#[]⟩ a2 c2 _ r rfl hI2 true ⟨fun _ => .inr ⟨rfl, empty_iff.2 rfl, by rw [← hr]; exact HAR.out⟩, fun _ => rfl⟩)
    have hsum : sumC r = 17 + s.size := by
      rw [← hr]
      simp [sumC, oneV]
      have : (⟨#[118]⟩ : ByteArray).size = 1 := rfl
      omega
    have HCr := Lib.hid (fun W a2 c2 (hI2 : InF W a2 r) => cost_hash W ⟨#[107]⟩ ⟨#[]⟩ a2 c2 _ r rfl (by decide) (by omega) (by omega) hI2)
    have HCi := Lib.hid (fun W => cost_none W ⟨#[107]⟩ ⟨#[]⟩ (.slice a 0 c) (by decide))
    obtain ⟨q, hq⟩ := ex_nat2 (48 + (⟨#[107]⟩ : ByteArray).size)
    have hqb : q ≤ 3000000 := by have : (⟨#[107]⟩ : ByteArray).size = 1 := rfl; omega
    have hqr : ((48 + (⟨#[107]⟩ : ByteArray).size + sumC r : Nat) : Int) = (q : Int) + (17 + (s.size : Int)) := by rw [← hq, hsum]; push_cast; omega
    simp only [hqr] at HCr
    simp only [hq] at HCi
    have hwa : IntKind.i64.wrap (17 + (s.size : Int)) = 17 + (s.size : Int) := by rw [IntKind.wrap_i64]; omega
    have hwb : IntKind.i64.wrap ((q : Int) + (17 + (s.size : Int)) - (q : Int)) = 17 + (s.size : Int) := by rw [IntKind.wrap_i64]; omega
    rw [hr'] at HPt
    have hth0 : (!there ([] : List Fd)) = true := rfl
    rw [hth0] at HPt
    rw [txtV, thereV] at HGt2
    have hrc : (r.length : Int) = 1 := by omega
    clear hsp hSp hr hr' hsum hqr hq HAR hth0 hth hrl hrc
    go_wp2_with fail
    refine (HPt.out _).mono ?_
    rintro e w11 ⟨v11, rfl, hv, hb⟩
    have X3 := Lib.hid (X3.out.below hb)
    have B := Lib.hid (bstep B.out hb)
    clear hb c0 c1 c2
    obtain ⟨a16, c16, rfl, h1, h2, h3⟩ := hv
    have h1 : r.length ≤ c16 := h1
    have h3 : InF w11 a16 r := h3
    have hlt16 : w.heap.size < w11.heap.size := X3.out.cells.lt
    have X16 := Lib.hid (fun T => Bx.new (W := w11) (i := ⟨2, ⟨#[]⟩, r⟩) h3 h1 h2 T)
    have X3 := Lib.hid (fun O => X3.out.alloc O)
    have B := Lib.hid (fun O => bstep B.out (bbox (w := w11) O))
    have c0 := fun O => (X3.out O).cells.c0
    have c1 := fun O => (X3.out O).cells.c1
    have c2 := fun O => (X3.out O).cells.c2
    clear h1 h2 h3
    go_wp2_with fail
    refine (HGt2.out _ a16 c16 (X16.out _).inF).mono ?_
    rintro e w12 ⟨rfl, hb⟩
    have X3 := Lib.hid ((X3.out _).below hb)
    have X16 := Lib.hid ((X16.out _).below hb)
    have B := Lib.hid (bstep (B.out _) hb)
    clear hb c0 c1 c2
    generalize w11.heap.size = N16 at *
    have c0 := X3.out.cells.c0
    have c1 := X3.out.cells.c1
    have c2 := X3.out.cells.c2
    have e0 := X16.out.cells.c0
    have e1 := X16.out.cells.c1
    have e2 := X16.out.cells.c2
    go_wp2_with fail
    refine (HDr.out _ a16 c16 X16.out.inF).mono ?_
    rintro e w13 ⟨rfl, hb⟩
    have X3 := Lib.hid (X3.out.below hb)
    have X16 := Lib.hid (X16.out.below hb)
    have B := Lib.hid (bstep B.out hb)
    clear hb c0 c1 c2 e0 e1 e2
    have hlt22 : N16 < w13.heap.size := X16.out.cells.lt
    have hlt23 : w.heap.size < w13.heap.size := X3.out.cells.lt
    have X22 := Lib.hid (fun T => Cell3.new w13 (.int .i64 0) (.string ⟨#[]⟩) (.slice none 0 0) T)
    have X3 := Lib.hid (fun O => X3.out.alloc O)
    have X16 := Lib.hid (fun O => X16.out.alloc O)
    have B := Lib.hid (fun O => bstep B.out (bbox (w := w13) O))
    go_wp2_with fail
    obtain ⟨F', G1, G2, G3⟩ := ovr (w13.alloc (.cells #[.int .i64 0, .string ⟨#[]⟩, .slice none 0 0] 24))
    have GF3 := Lib.hid G3
    have GB := Lib.hid (fun x => bstep (B.out _) (G1 x))
    have Y3 := Lib.hid (fun x => (X3.out _).below (G1 x))
    have Y16 := Lib.hid (fun x => (X16.out _).below (G1 x))
    have Y22 := Lib.hid (fun x => (X22.out _).below (G1 x))
    clear X3 X16 X22 B G1 G3
    generalize w13.heap.size = N22 at *
    have c0 := fun x => (Y3.out x).cells.c0
    have c1 := fun x => (Y3.out x).cells.c1
    have c2 : ∀ x, (F' x).cell? ⟨w.heap.size, 2, none⟩ = some (.slice a 0 c) := fun x => (Y3.out x).cells.c2
    have e0 := fun x => (Y16.out x).cells.c0
    have e1 := fun x => (Y16.out x).cells.c1
    have e2 := fun x => (Y16.out x).cells.c2
    have f0 := fun x => (Y22.out x).c0
    have f1 := fun x => (Y22.out x).c1
    have f2 := fun x => (Y22.out x).c2
    have GQ1 := Lib.hid (fun x => HRr.out (F' x) a16 c16 (Y16.out x).inF)
    have GQ2 := Lib.hid (fun x => same_calls (F' x) 0 0 ⟨#[]⟩ ⟨#[]⟩ none a 0 c 0 0 [] [] rfl rfl (by omega) (by omega) (InF.nil _ _) (InF.nil _ _) true ⟨fun _ => ⟨rfl, rfl, rfl⟩, fun _ => rfl⟩)
    have GQ3 := Lib.hid (fun x => HCr.out (F' x) a16 c16 (Y16.out x).inF)
    have GQ4 := Lib.hid (fun x => HCi.out (F' x))
    refine wp_region_cls F' (by kernel_rfl) (by kernel_rfl) G2 ?_
    repeat (go_big_quiet_step (first | (go_at_call 11; with_reducible exact q_ovr GF3.out (GQ1.out _)) | (go_at_call 13; with_reducible exact q_ovr GF3.out (GQ2.out _)) | (go_at_call 15; first | with_reducible exact q_ovr GF3.out (GQ3.out _) | with_reducible exact q_ovr GF3.out (GQ4.out _))))
    refine wpQuiet_nil ?_
    intro _ hw'
    obtain ⟨x2, hw9⟩ := hw'
    subst hw9
    go_wp2_with fail
    go_ret
    exact ⟨rfl, GB.out x2⟩
end Go.Proofs.YtjjphpklifbipaaDoor.Ia
