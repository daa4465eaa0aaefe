/- The checking package's Put of layer 9 where nothing is put; both Appends; the checking package's Get and Drop of a text. No condition but bounds. -/
import Derived.Test.YtjjphpklifbipaaDoorIb1
namespace Go.Proofs.YtjjphpklifbipaaDoor.Ia
open Go.ChangeShapes Go.WideShapes Go.ChangeAt Go.RowKit
/-- Behind a store of an item into a box of the call's own. -/
theorem ItV.sets3 {wa w : World} {v : Value} {i : It} (h : ItV wa v i) (hb : Below wa.heap.size wa w) {b : Nat} (h1 : wa.heap.size ≤ b) (x y z : Value) :
    ItV (((w.setCell ⟨b, 0, none⟩ x).setCell ⟨b, 1, none⟩ y).setCell ⟨b, 2, none⟩ z) v i ∧ Below wa.heap.size wa (((w.setCell ⟨b, 0, none⟩ x).setCell ⟨b, 1, none⟩ y).setCell ⟨b, 2, none⟩ z) := by
  have hB := ((hb.setCell (p := ⟨b, 0, none⟩) h1 x).setCell (p := ⟨b, 1, none⟩) h1 y).setCell (p := ⟨b, 2, none⟩) h1 z
  exact ⟨h.below hB, hB⟩
theorem itv_mk {w : World} {a : Option Addr} {c : Nat} {k : Int} {t : ByteArray} {l : List Fd} (hcap : l.length ≤ c) (hcap2 : c ≤ 9223372036854775807) (hI : InF w a l) : ItV w (.agg #[.int .i64 k, .string t, .slice a l.length c]) ⟨k, t, l⟩ := ⟨a, c, rfl, hcap, hcap2, hI⟩
set_option maxHeartbeats 8000000 in
set_option maxRecDepth 100000 in
theorem refPut_kind (w : World) (tx : ByteArray) (a : Option Addr) (c len : Nat) (n t : ByteArray) (l : List Fd) (hlen : len = l.length) (hcap : l.length ≤ c) (hcap2 : c ≤ 9223372036854775807) (hI : InF w a l) :
    Calls Tryd.prog 23 #[.agg #[.int .i64 1, .string tx, .slice a len c], .string n, .string t] w fun e w' => ∃ v, e = .returned (.tuple #[v, .bool false, .int .i64 91]) ∧ ItV w' v ⟨1, tx, l⟩ ∧ Below w.heap.size w w' := by
  subst hlen
  have HV := Lib.hid (itv_mk (k := 1) (t := tx) hcap hcap2 hI)
  clear hI hcap
  go_enter Tryd.func23, Tryd.ntmps23
  go_wp2_with fail
  exact bodyPost_ret (v := .tuple #[.agg #[.int .i64 1, .string tx, .slice a l.length c], .bool false, .int .i64 91]) (by simp [results, Tryd.results23, go_sem]) rfl
    ⟨_, rfl, HV.out.below (bstep (bbox _) (bbox _)), bstep (bbox _) (bbox _)⟩
set_option maxHeartbeats 8000000 in
set_option maxRecDepth 100000 in
theorem refPut_big (w : World) (k : Int) (tx : ByteArray) (a : Option Addr) (c len : Nat) (n t : ByteArray) (l A M B : List Fd) (hs : Split n l A M B) (hlen : len = l.length) (hcap : l.length ≤ c) (hcap2 : c ≤ 9223372036854775807) (hI : InF w a l) (hk : k ≠ 1) (hb : ¬ ((n.size ≤ 512 ∧ t.size ≤ 4096) ∧ (there M = true ∨ l.length < 256))) :
    Calls Tryd.prog 23 #[.agg #[.int .i64 k, .string tx, .slice a len c], .string n, .string t] w fun e w' => ∃ v, e = .returned (.tuple #[v, .bool false, .int .i64 94]) ∧ ItV w' v ⟨k, tx, l⟩ ∧ Below w.heap.size w w' := by
  subst hlen
  have HV := Lib.hid (itv_mk (k := k) (t := tx) hcap hcap2 hI)
  have HF := Lib.hid (fun W (h : Below w.heap.size w W) => refGet_calls W k tx a c _ n l A M B hs rfl hcap hcap2 (hI.below (Nat.le_refl _) h) hk)
  have HC := Lib.hid (fun O => (Cell3.new w (.int .i64 k) (.string tx) (.slice a l.length c) 24).alloc O)
  have HD := Lib.hid (fun O => Cell3.new2 (w.alloc O) (w.heap.size + 1) (by simp) (.int .i64 0) (.string ⟨#[]⟩) (.slice none 0 0) 24)
  have hkb : (k == 1) = false := by rw [beq_eq_false_iff_ne]; exact hk
  have hor : Hid ((512 : Int) < (n.size : Int) ∨ ¬ (512 : Int) < (n.size : Int) ∧ ((4096 : Int) < (t.size : Int) ∨ ¬ (4096 : Int) < (t.size : Int) ∧ there M = false ∧ (256 : Int) ≤ (l.length : Int))) := Lib.hid (by
    by_cases h1 : n.size ≤ 512
    · by_cases h2 : t.size ≤ 4096
      · refine .inr ⟨by omega, .inr ⟨by omega, ?_, ?_⟩⟩
        · cases h : there M with
          | false => rfl
          | true => exact absurd ⟨⟨h1, h2⟩, .inl h⟩ hb
        · have : ¬ l.length < 256 := fun h => hb ⟨⟨h1, h2⟩, .inr h⟩
          omega
      · exact .inr ⟨by omega, .inl (by omega)⟩
    · exact .inl (by omega))
  generalize txt M = tm at *
  generalize there M = m at *
  clear hI hk hs hb hcap
  go_enter Tryd.func23, Tryd.ntmps23
  go_wp2_with fail
  refine (HF.out _ (bstep (bbox _) (bbox _))).mono ?_
  rintro e w2 ⟨rfl, hb⟩
  have HB := Lib.hid (bstep (bstep (bbox _) (bbox _)) hb)
  have HC2 := Lib.hid ((HC.out _).below hb)
  have HD2 := Lib.hid ((HD.out _).below hb)
  have c0 := HC2.out.c0
  have c1 := HC2.out.c1
  have c2 := HC2.out.c2
  have d0 := HD2.out.c0
  have d1 := HD2.out.c1
  have d2 := HD2.out.c2
  have g0 := HD2.out.f 0 (by omega)
  have g1 := HD2.out.f 1 (by omega)
  have g2 := HD2.out.f 2 (by omega)
  have HV2 := Lib.hid (fun x y z => HV.out.sets3 HB.out (b := w.heap.size + 1) (by omega) x y z)
  clear hb HC HD HF
  rcases hor.out with hn | ⟨hn, ht | ⟨ht, rfl, hlc⟩⟩
  all_goals
    go_wp2_with fail
    exact bodyPost_ret (v := .tuple #[.agg #[.int .i64 k, .string tx, .slice a l.length c], .bool false, .int .i64 94]) (by simp [results, Tryd.results23, go_sem, d0, d1, d2]) rfl
      ⟨_, rfl, (HV2.out _ _ _).1, (HV2.out _ _ _).2⟩
set_option maxHeartbeats 8000000 in
set_option maxRecDepth 100000 in
theorem refDrop_kind (w : World) (tx : ByteArray) (a : Option Addr) (c len : Nat) (n : ByteArray) (l : List Fd) (hlen : len = l.length) (hcap : l.length ≤ c) (hcap2 : c ≤ 9223372036854775807) (hI : InF w a l) :
    Calls Tryd.prog 25 #[.agg #[.int .i64 1, .string tx, .slice a len c], .string n] w fun e w' => ∃ v, e = .returned (.tuple #[v, .bool false, .int .i64 91]) ∧ ItV w' v ⟨1, tx, l⟩ ∧ Below w.heap.size w w' := by
  subst hlen
  have HV := Lib.hid (itv_mk (k := 1) (t := tx) hcap hcap2 hI)
  clear hI hcap
  go_enter Tryd.func25, Tryd.ntmps25
  go_wp2_with fail
  exact bodyPost_ret (v := .tuple #[.agg #[.int .i64 1, .string tx, .slice a l.length c], .bool false, .int .i64 91]) (by simp [results, Tryd.results25, go_sem]) rfl
    ⟨_, rfl, HV.out.below (bstep (bbox _) (bbox _)), bstep (bbox _) (bbox _)⟩
end Go.Proofs.YtjjphpklifbipaaDoor.Ia
