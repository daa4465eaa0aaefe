/- item.Drop. Conditions: the fields' names rise. -/
import Derived.Test.YtjjphpklifbipaaDoorIa7
namespace Go.Proofs.YtjjphpklifbipaaDoor.Ia
open Go.ChangeShapes Go.WideShapes Go.ChangeAt Go.RowKit
theorem inP_two {w : World} {a1 a2 : Option Addr} {c1 c2 : Nat} {A B : List Fd} (h1 : InF w a1 A) (h2 : InF w a2 B) (T : TypeId) :
    InP (w.alloc (.cells #[.slice a1 A.length c1, .slice a2 B.length c2] T)) w.heap.size [(a1, c1, A), (a2, c2, B)] := by
  refine ⟨by simp, fun i hi => ?_⟩
  have hi : i < 2 := hi
  have h0 : i = 0 ∨ i = 1 := by omega
  rcases h0 with rfl | rfl
  · exact ⟨by rw [World.cell?_alloc_new]; rfl, h1.below (Nat.le_refl _) (bbox _)⟩
  · exact ⟨by rw [World.cell?_alloc_new]; rfl, h2.below (Nat.le_refl _) (bbox _)⟩
theorem two_calls (W V : World) {a1 a2 : Option Addr} {c1 c2 : Nat} {A B : List Fd} (h1 : InF W a1 A) (h2 : InF W a2 B) (hs : A.length + B.length ≤ 100000) (T2 : TypeId)
    (hV : Below (W.alloc (.cells #[.slice a1 A.length c1, .slice a2 B.length c2] T2)).heap.size (W.alloc (.cells #[.slice a1 A.length c1, .slice a2 B.length c2] T2)) V) :
    Calls Tryd.prog 36 #[.slice (some ⟨W.heap.size, 0, none⟩) 2 2] V
      fun e w' => ∃ v, e = .returned (.agg #[.int .i64 2, .string ⟨#[]⟩, v]) ∧ RowF V w' v (A ++ B) := by
  have hP := (inP_two (w := W) (c1 := c1) (c2 := c2) h1 h2 T2).below hV
  have h := hashItem_calls _ W.heap.size 2 2 _ rfl hP (by simp [sumP]; omega) (by simp)
  have e : allP [(a1, c1, A), (a2, c2, B)] = A ++ B := by simp [allP]
  rw [e] at h
  exact h
set_option maxHeartbeats 8000000 in
set_option maxRecDepth 100000 in
/-- No field goes: another kind, or a name that isn't there. -/
theorem drop_not (w : World) (k : Int) (tx : ByteArray) (a : Option Addr) (c len : Nat) (n : ByteArray) (l : List Fd) (z e9 : Int) (hlen : len = l.length) (hl : l.length ≤ 1000000) (hI : InF w a l)
    (hF : ∀ W, Below w.heap.size w W → Calls Tryd.prog 34 #[.agg #[.int .i64 k, .string tx, .slice a len c], .string n] W fun e w' => e = .returned (.tuple #[.int .i64 z, .bool false, .int .i64 e9]) ∧ Below W.heap.size W w') :
    Calls Tryd.prog 24 #[.agg #[.int .i64 k, .string tx, .slice a len c], .string n] w fun e w' => ∃ v, e = .returned (.tuple #[v, .bool false, .int .i64 e9]) ∧ ItV w' v ⟨k, tx, l⟩ ∧ Below w.heap.size w w' := by
  subst hlen
  have HF := Lib.hid hF
  have HCp := Lib.hid (fun W (h : Below w.heap.size w W) => copy_calls W k tx a c _ l rfl (hI.below (Nat.le_refl _) h) hl)
  have HC := Lib.hid (fun O => (Cell3.new w (.int .i64 k) (.string tx) (.slice a l.length c) 24).alloc O)
  have HD := Lib.hid (fun O => Cell3.new2 (w.alloc O) (w.heap.size + 1) (by simp) (.int .i64 0) (.string ⟨#[]⟩) (.slice none 0 0) 24)
  clear hI hF
  have hne : ∃ b, (e9 != 0) = b := ⟨_, rfl⟩
  obtain ⟨b, hne⟩ := hne
  cases b
  all_goals
    go_enter Tryd.func24, Tryd.ntmps24
    go_wp2_with fail
    refine (HF.out _ (bstep (bbox _) (bbox _))).mono ?_
    rintro e w2 ⟨rfl, hb⟩
    have HB := Lib.hid (bstep (bstep (bbox _) (bbox _)) hb)
    have HC2 := Lib.hid ((HC.out _).below hb)
    have HD2 := Lib.hid ((HD.out _).below hb)
    have c0 := HC2.out.c0
    have c1 := HC2.out.c1
    have c2 := HC2.out.c2
    clear hb
    go_wp2_with fail
    refine (HCp.out _ HB.out).mono ?_
    rintro e w3 ⟨v, rfl, hR⟩
    have HD3 := Lib.hid (HD2.out.below hR.bel)
    have d0 := HD3.out.c0
    have d1 := HD3.out.c1
    have d2 := HD3.out.c2
    have g0 := HD3.out.f 0 (by omega)
    have g1 := HD3.out.f 1 (by omega)
    have g2 := HD3.out.f 2 (by omega)
    obtain ⟨sa, sc, rfl, -, -, -⟩ := hR.slice
    have HR := Lib.hid hR
    clear hR
    go_wp2_with fail
    exact bodyPost_ret (v := .tuple #[.agg #[.int .i64 k, .string tx, .slice sa l.length sc], .bool false, .int .i64 e9]) (by simp [results, Tryd.results24, go_sem, d0, d1, d2]) rfl
      ⟨_, rfl, HR.out.itvS HB.out k tx (by omega) HD2.out.lt _ _ _⟩
end Go.Proofs.YtjjphpklifbipaaDoor.Ia
