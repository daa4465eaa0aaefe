/- The walk of the law ItemBack: true, at any item, any number and any name. -/
import Derived.Test.YtjjphpklifbipaaDoorId5
namespace Go.Proofs.YtjjphpklifbipaaDoor.Ia
open Go.ChangeShapes Go.WideShapes Go.ChangeAt Go.RowKit
theorem right_text (W : World) (s : ByteArray) (hs : s.size ≤ 4096) : Calls Tryd.prog 11 #[.agg #[.int .i64 1, .string s, .slice none 0 0]] W fun e w' => e = .returned (.bool true) ∧ Below W.heap.size W w' :=
  right_calls W 1 s none 0 0 [] rfl (InF.nil _ _) true ⟨fun _ => .inl ⟨rfl, hs, rfl⟩, fun _ => rfl⟩
theorem itoa_le (v : Int) (h0 : -9223372036854775808 ≤ v) (h1 : v ≤ 9223372036854775807) : (⟨(Lib.itoa v).toArray⟩ : ByteArray).size ≤ 4096 := by
  have h : (⟨(Lib.itoa v).toArray⟩ : ByteArray).size = (Lib.itoa v).length := by simp [ByteArray.size]
  have h2 := Lib.itoa_length_le v h0 h1
  omega
theorem sum_k1 (t : ByteArray) (n x y : Int) (h : sumOf 1 t n = (x, y)) : (y = 0 ∧ -9223372036854775808 ≤ x ∧ x ≤ 9223372036854775807 ∧ ∃ v, x = v + n ∧ -9223372036854775808 ≤ v ∧ v ≤ 9223372036854775807 ∧ (⟨(Lib.itoa v).toArray⟩ : ByteArray) = t) ∨ (y != 0) = true := by
  unfold sumOf at h
  rw [if_neg (by omega), if_pos rfl] at h
  rcases Num.wp_cases t.data.toList with ⟨v, v0, v1, hv, hw⟩ | ⟨-, hw⟩
  · rw [hw, if_pos rfl] at h
    unfold addOf at h
    split at h
    · rename_i hr
      injection h with e1 e2
      exact .inl ⟨e2.symm, by rw [← e1]; exact hr.1, by rw [← e1]; exact hr.2, v, e1.symm, v0, v1, by rw [hv]⟩
    · injection h with e1 e2
      exact .inr (by rw [← e2]; rfl)
  · rw [hw, if_neg (by decide)] at h
    injection h with e1 e2
    exact .inr (by rw [← e2]; rfl)
theorem sum_back (v n : Int) (h0 : -9223372036854775808 ≤ v + n) (h1 : v + n ≤ 9223372036854775807) (hv0 : -9223372036854775808 ≤ v) (hv1 : v ≤ 9223372036854775807) : sumOf 1 ⟨(Lib.itoa (v + n)).toArray⟩ (-n) = (v, 0) := by
  have hw : Num.wp (⟨(Lib.itoa (v + n)).toArray⟩ : ByteArray).data.toList = (v + n, 0) := Num.wp_itoa _ h0 h1
  unfold sumOf
  rw [if_neg (by omega), if_pos rfl, hw, if_pos rfl]
  unfold addOf
  have e : v + n + -n = v := by omega
  rw [e, if_pos ⟨hv0, hv1⟩]
theorem ex_ba (s : ByteArray) : ∃ q, s = q := ⟨s, rfl⟩
set_option maxHeartbeats 16000000 in
set_option maxRecDepth 100000 in
theorem back1 (w : World) (hc : Ctx w) (t : ByteArray) (l : List Fd) (a : Option Addr) (c : Nat) (hI : InF w a l) (hcap : l.length ≤ c) (hcap2 : c ≤ 9223372036854775807) (n : Int) (hn0 : -9223372036854775808 ≤ n) (hn1 : n ≤ 9223372036854775807) (s : ByteArray) (hs9 : s.size ≤ 9223372036854775807) (hF : Fit ⟨1, t, l⟩) :
    Calls Tryd.prog 5 #[.agg #[.int .i64 1, .string t, .slice a l.length c], .int .i64 n, .string s] w fun e w' => e = .returned (.bool true) ∧ Below w.heap.size w w' := by
  have H := Lib.hid (fun W (h : Below w.heap.size w W) => hc.below h)
  have HI := Lib.hid (fun W (h : Below w.heap.size w W) => hI.below (Nat.le_refl _) h)
  have HB0 := Lib.hid (fun T => Bx.new (W := w) (i := ⟨1, t, l⟩) hI hcap hcap2 T)
  have HFt := Lib.hid (fun W (h : Below w.heap.size w W) => fits_calls W 1 t a c _ l rfl (hI.below (Nat.le_refl _) h) true ⟨fun _ => hF, fun _ => rfl⟩)
  have HGi := Lib.hid (fun W (h : Below w.heap.size w W) => great_calls W 1 t a c _ l rfl (hI.below (Nat.le_refl _) h))
  have HFi := Lib.hid hF
  clear hc hI hF
  go_enter Tryd.func5, Tryd.ntmps5
  go_wp2_with fail
  refine (alive_calls _ (H.out _ (bbox _))).mono ?_
  rintro e w1 ⟨rfl, hb⟩
  have X3 := Lib.hid ((HB0.out _).below hb)
  have B := Lib.hid (bstep (bbox _) hb)
  clear hb HB0
  have c0 := X3.out.cells.c0
  have c1 := X3.out.cells.c1
  have c2 := X3.out.cells.c2
  go_wp2_with fail
  refine (HGi.out _ B.out).mono ?_
  rintro e w2 ⟨he, hb⟩
  have X3 := Lib.hid (X3.out.below hb)
  have B := Lib.hid (bstep B.out hb)
  clear hb c0 c1 c2
  rcases he with rfl | ⟨rfl, -⟩
  · go_wp2_with fail
    go_ret
    exact ⟨rfl, B.out⟩
  have c0 := X3.out.cells.c0
  have c1 := X3.out.cells.c1
  have c2 := X3.out.cells.c2
  go_wp2_with fail
  refine (HFt.out _ B.out).mono ?_
  rintro e w3 ⟨rfl, hb⟩
  have X3 := Lib.hid (X3.out.below hb)
  have B := Lib.hid (bstep B.out hb)
  clear hb c0 c1 c2 HFt HGi
  by_cases hs : 512 < s.size
  · have hsc : (512 : Int) < (s.size : Int) := by omega
    go_wp2_with fail
    go_ret
    exact ⟨rfl, B.out⟩
  have hsc : ¬ (512 : Int) < (s.size : Int) := by omega
  have c0 := X3.out.cells.c0
  have c1 := X3.out.cells.c1
  have c2 := X3.out.cells.c2
  obtain ⟨x, y, hxy⟩ : ∃ x y, sumOf 1 t n = (x, y) := ⟨_, _, rfl⟩
  have HXY := Lib.hid hxy
  clear hxy
  rcases sum_k1 t n x y HXY.out with ⟨rfl, hx0, hx1, v, hxv, hv0, hv1, htv⟩ | hy
  · have HXV := Lib.hid hxv
    have HTV := Lib.hid htv
    clear hxv htv
    have HAd := Lib.hid (fun W (h : Below w.heap.size w W) => add_ok W (H.out W h) 1 t a c l.length n hn0 hn1 (by have h5 : t.size ≤ 4096 := HFi.out.tlen; omega) x hx0 hx1 HXY.out)
    go_wp2_with fail
    refine (HAd.out _ B.out).mono ?_
    rintro e w4 ⟨rfl, hb⟩
    have X3 := Lib.hid (X3.out.below hb)
    have B := Lib.hid (bstep B.out hb)
    clear hb c0 c1 c2 HAd
    have Xs := ex_ba (⟨(Lib.itoa x).toArray⟩ : ByteArray)
    obtain ⟨sx, hsx⟩ := Xs
    rw [hsx]
    have HSX := Lib.hid hsx
    have hsz : sx.size ≤ 4096 := by rw [← hsx]; exact itoa_le x hx0 hx1
    clear hsx
    have X7 := Lib.hid (fun T => Bx.new (W := w4) (i := ⟨1, sx, []⟩) (a := none) (c := 0) (InF.nil _ _) (Nat.zero_le _) (Nat.zero_le _) T)
    have hlt7 : w.heap.size < w4.heap.size := X3.out.cells.lt
    have X3 := Lib.hid (fun O => X3.out.alloc O)
    have B := Lib.hid (fun O => bstep B.out (bbox (w := w4) O))
    have c0 := fun O => (X3.out O).cells.c0
    have c1 := fun O => (X3.out O).cells.c1
    have c2 := fun O => (X3.out O).cells.c2
    have HRt := Lib.hid (fun W => right_text W sx hsz)
    go_wp2_with fail
    refine (HRt.out _).mono ?_
    rintro e w5 ⟨rfl, hb⟩
    have X3 := Lib.hid ((X3.out _).below hb)
    have X7 := Lib.hid ((X7.out _).below hb)
    have B := Lib.hid (bstep (B.out _) hb)
    clear hb c0 c1 c2 HRt
    generalize w4.heap.size = N7 at *
    have c0 := X3.out.cells.c0
    have c1 := X3.out.cells.c1
    have c2 := X3.out.cells.c2
    have q0 := X7.out.cells.c0
    have q1 := X7.out.cells.c1
    have q2 := X7.out.cells.c2
    by_cases hnm : -9223372036854775808 < n
    · have hnn : IntKind.i64.wrap (-n) = -n := by rw [IntKind.wrap_i64]; omega
      have hlt : l = [] := by
        rcases HFi.out.kinds with h | h | h
        · exact h.2.2
        · have h1 := h.1; cases h1
        · have h1 := h.1; cases h1
      have hsb : sumOf 1 sx (-n) = (v, 0) := by
        rw [← HSX.out, HXV.out]
        exact sum_back v n (by rw [← HXV.out]; exact hx0) (by rw [← HXV.out]; exact hx1) hv0 hv1
      have HA2 := Lib.hid (fun W (h : Below w.heap.size w W) => add_ok W (H.out W h) 1 sx none 0 0 (-n) (by omega) (by omega) (by omega) v hv0 hv1 hsb)
      rw [HTV.out] at HA2
      have HLt := Lib.hid hlt
      clear hsb hlt
      go_wp2_with fail
      refine (HA2.out _ B.out).mono ?_
      rintro e w6 ⟨rfl, hb⟩
      have X3 := Lib.hid (X3.out.below hb)
      have B := Lib.hid (bstep B.out hb)
      clear hb c0 c1 c2 q0 q1 q2 HA2
      have X10 := Lib.hid (fun T => Bx.new (W := w6) (i := ⟨1, t, []⟩) (a := none) (c := 0) (InF.nil _ _) (Nat.zero_le _) (Nat.zero_le _) T)
      have X3 := Lib.hid (fun O => X3.out.alloc O)
      have B := Lib.hid (fun O => bstep B.out (bbox (w := w6) O))
      have c0 := fun O => (X3.out O).cells.c0
      have c1 := fun O => (X3.out O).cells.c1
      have c2 := fun O => (X3.out O).cells.c2
      have HSm := Lib.hid (fun W (h : Below w.heap.size w W) => same_calls W 1 1 t t none a 0 c 0 l.length [] l rfl rfl (by omega) (by omega) (InF.nil _ _) (HI.out W h) true ⟨fun _ => ⟨rfl, rfl, HLt.out.symm⟩, fun _ => rfl⟩)
      go_wp2_with fail
      refine (HSm.out _ (B.out _)).mono ?_
      rintro e w7 ⟨rfl, hb⟩
      have X3 := Lib.hid ((X3.out _).below hb)
      have B := Lib.hid (bstep (B.out _) hb)
      clear hb c0 c1 c2 HSm
      have c0 := X3.out.cells.c0
      have c1 := X3.out.cells.c1
      have c2 := X3.out.cells.c2
      have HGt := Lib.hid (fun W => get_kind W 1 t (.slice a l.length c) s ⟨by omega, by omega⟩)
      go_wp2_with fail
      refine (HGt.out _).mono ?_
      rintro e w9 ⟨rfl, hb⟩
      have B := Lib.hid (bstep B.out hb)
      clear hb
      go_wp2_with fail
      go_ret
      exact ⟨rfl, B.out⟩
    · have hnc : ¬ (-9223372036854775808 : Int) < n := by omega
      have HGt := Lib.hid (fun W => get_kind W 1 t (.slice a l.length c) s ⟨by omega, by omega⟩)
      go_wp2_with fail
      refine (HGt.out _).mono ?_
      rintro e w9 ⟨rfl, hb⟩
      have B := Lib.hid (bstep B.out hb)
      clear hb
      go_wp2_with fail
      go_ret
      exact ⟨rfl, B.out⟩
  · have HAd := Lib.hid (fun W (h : Below w.heap.size w W) => add_err W (H.out W h) 1 t a c _ l rfl (by have := HFi.out.len; have h5 : l.length ≤ 256 := this; omega) (HI.out W h) n hn0 hn1 (by have h5 : t.size ≤ 4096 := HFi.out.tlen; omega) x y HXY.out hy)
    go_wp2_with fail
    refine (HAd.out _ B.out).mono ?_
    rintro e w4 ⟨v4, rfl, hv, hb⟩
    have X3 := Lib.hid (X3.out.below hb)
    have B := Lib.hid (bstep B.out hb)
    clear hb c0 c1 c2 HAd
    obtain ⟨a7, c7, rfl, -, -, -⟩ := hv
    have X3 := Lib.hid (fun O => X3.out.alloc O)
    have B := Lib.hid (fun O => bstep B.out (bbox (w := w4) O))
    have c0 := fun O => (X3.out O).cells.c0
    have c1 := fun O => (X3.out O).cells.c1
    have c2 := fun O => (X3.out O).cells.c2
    have hyf : (y == 0) = false := by rw [beq_eq_false_iff_ne]; rw [bne_iff_ne] at hy; exact hy
    have HGt := Lib.hid (fun W => get_kind W 1 t (.slice a l.length c) s ⟨by omega, by omega⟩)
    go_wp2_with fail
    refine (HGt.out _).mono ?_
    rintro e w9 ⟨rfl, hb⟩
    have B := Lib.hid (bstep (B.out _) hb)
    clear hb
    go_wp2_with fail
    go_ret
    exact ⟨rfl, B.out⟩
end Go.Proofs.YtjjphpklifbipaaDoor.Ia
