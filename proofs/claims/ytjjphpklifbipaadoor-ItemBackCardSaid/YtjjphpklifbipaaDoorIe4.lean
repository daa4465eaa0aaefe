/- The walk of the law ItemBack: true, at any item, any number and any name. -/
import Derived.Test.YtjjphpklifbipaaDoorIe3
namespace Go.Proofs.YtjjphpklifbipaaDoor.Ia
open Go.ChangeShapes Go.WideShapes Go.ChangeAt Go.RowKit
set_option maxHeartbeats 4000000 in
theorem back_not (w : World) (hc : Ctx w) (k : Int) (t : ByteArray) (l : List Fd) (a : Option Addr) (c : Nat) (hI : InF w a l) (hcap : l.length ≤ c) (hcap2 : c ≤ 9223372036854775807) (n : Int) (s : ByteArray) (hF : ¬ Fit ⟨k, t, l⟩) :
    Calls Tryd.prog 5 #[.agg #[.int .i64 k, .string t, .slice a l.length c], .int .i64 n, .string s] w fun e w' => e = .returned (.bool true) ∧ Below w.heap.size w w' := by
  have H := Lib.hid (fun W (h : Below w.heap.size w W) => hc.below h)
  have HB0 := Lib.hid (fun T => Bx.new (W := w) (i := ⟨k, t, l⟩) hI hcap hcap2 T)
  have HFt := Lib.hid (fun W (h : Below w.heap.size w W) => fits_calls W k t a c _ l rfl (hI.below (Nat.le_refl _) h) false ⟨fun h => absurd h (by decide), fun h => absurd h hF⟩)
  have HGi := Lib.hid (fun W (h : Below w.heap.size w W) => great_calls W k t a c _ l rfl (hI.below (Nat.le_refl _) h))
  clear hc hI hF
  go_enter Tryd.func5, Tryd.ntmps5
  go_wp2_with fail
  refine (alive_calls _ (H.out _ (bbox _))).mono ?_
  rintro e w1 ⟨rfl, hb⟩
  have X3 := Lib.hid ((HB0.out _).below hb)
  have B := Lib.hid (bstep (bbox _) hb)
  clear hb HB0
  have c0 := X3.out.cells.c0
  have c1 := X3.out.cells.c1
  have c2 := X3.out.cells.c2
  go_wp2_with fail
  refine (HGi.out _ B.out).mono ?_
  rintro e w2 ⟨he, hb⟩
  have X3 := Lib.hid (X3.out.below hb)
  have B := Lib.hid (bstep B.out hb)
  clear hb c0 c1 c2
  rcases he with rfl | ⟨rfl, -⟩
  · go_wp2_with fail
    go_ret
    exact ⟨rfl, B.out⟩
  have c0 := X3.out.cells.c0
  have c1 := X3.out.cells.c1
  have c2 := X3.out.cells.c2
  go_wp2_with fail
  refine (HFt.out _ B.out).mono ?_
  rintro e w3 ⟨rfl, hb⟩
  have B := Lib.hid (bstep B.out hb)
  clear hb
  go_wp2_with fail
  go_ret
  exact ⟨rfl, B.out⟩
theorem itemBack (w : World) (hc : Ctx w) (i : It) (a : Option Addr) (c : Nat) (hI : InF w a i.l) (hcap : i.l.length ≤ c) (hcap2 : c ≤ 9223372036854775807) (n : Int) (hn0 : -9223372036854775808 ≤ n) (hn1 : n ≤ 9223372036854775807) (s : ByteArray) (hs9 : s.size ≤ 9223372036854775807) :
    Calls Tryd.prog 5 #[.agg #[.int .i64 i.k, .string i.t, .slice a i.l.length c], .int .i64 n, .string s] w fun e w' => e = .returned (.bool true) ∧ Below w.heap.size w w' := by
  obtain ⟨k, t, l⟩ := i
  by_cases hF : Fit ⟨k, t, l⟩
  · rcases hF.kinds with h | h | h
    · obtain ⟨h1, -, -⟩ := h
      have h1 : k = 1 := h1
      subst h1
      exact back1 w hc t l a c hI hcap hcap2 n hn0 hn1 s hs9 hF
    · obtain ⟨h1, -, -⟩ := h
      have h1 : k = 2 := h1
      subst h1
      exact back2 w hc t l a c hI hcap hcap2 n hn0 hn1 s hs9 hF
    · obtain ⟨h1, h2, h3⟩ := h
      have h1 : k = 0 := h1
      have h2 : t = ⟨#[]⟩ := h2
      have h3 : l = [] := h3
      subst h1
      subst h2
      subst h3
      exact back0 w hc a c hcap2 n hn0 hn1 s hs9
  · exact back_not w hc k t l a c hI hcap hcap2 n s hF
end Go.Proofs.YtjjphpklifbipaaDoor.Ia
