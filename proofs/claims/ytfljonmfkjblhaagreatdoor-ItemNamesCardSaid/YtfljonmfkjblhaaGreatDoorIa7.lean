/- item.Put. Conditions: the fields' names rise. -/
import Derived.Test.YtfljonmfkjblhaaGreatDoorIa6
namespace Go.Proofs.YtfljonmfkjblhaaGreatDoor.Ia
open Go.ChangeShapes Go.WideShapes Go.ChangeAt Go.RowKit
/-- What Put answers: the item, is it new, the error's number. -/
def putOf (i : It) (n t : ByteArray) (A M B : List Fd) : It × Bool × Int :=
  if i.k ≠ 0 ∧ i.k ≠ 2 then (i, false, 91) else if (n.size ≤ 512 ∧ t.size ≤ 4096) ∧ (there M = true ∨ i.l.length < 256) then (⟨2, ⟨#[]⟩, A ++ [(n, t)] ++ B⟩, !there M, 0) else (i, false, 94)
theorem inP_three {w : World} {a1 a2 : Option Addr} {c1 c2 b2 : Nat} {A B : List Fd} {f : Fd} (h1 : InF w a1 A) (h2 : InF w a2 B) (hb : b2 < w.heap.size) (f0 : w.cell? ⟨b2, 0, none⟩ = some (.string f.1)) (f1 : w.cell? ⟨b2, 1, none⟩ = some (.string f.2)) (T : TypeId) :
    InP (w.alloc (.cells #[.slice a1 A.length c1, .slice (some ⟨b2, 0, none⟩) 1 1, .slice a2 B.length c2] T)) w.heap.size [(a1, c1, A), (some ⟨b2, 0, none⟩, 1, [f]), (a2, c2, B)] := by
  have hF : InF w (some ⟨b2, 0, none⟩) [f] := fun _ => ⟨b2, 0, rfl, hb, fun i hi => by
    obtain rfl : i = 0 := by simpa using hi
    exact ⟨f0, f1⟩⟩
  refine ⟨by simp, fun i hi => ?_⟩
  have hi : i < 3 := hi
  have h0 : i = 0 ∨ i = 1 ∨ i = 2 := by omega
  rcases h0 with rfl | rfl | rfl
  · exact ⟨by rw [World.cell?_alloc_new]; rfl, h1.below (Nat.le_refl _) (bbox _)⟩
  · exact ⟨by rw [World.cell?_alloc_new]; rfl, hF.below (Nat.le_refl _) (bbox _)⟩
  · exact ⟨by rw [World.cell?_alloc_new]; rfl, h2.below (Nat.le_refl _) (bbox _)⟩
theorem RowF.itvS {wa wb w : World} {v : Value} {l : List Fd} (h : RowF wb w v l) (hb : Below wa.heap.size wa wb) (k : Int) (t : ByteArray) {b : Nat} (h1 : wa.heap.size ≤ b) (h2 : b < wb.heap.size) (x y z : Value) :
    ItV (((w.setCell ⟨b, 0, none⟩ x).setCell ⟨b, 1, none⟩ y).setCell ⟨b, 2, none⟩ z) (.agg #[.int .i64 k, .string t, v]) ⟨k, t, l⟩ ∧ Below wa.heap.size wa (((w.setCell ⟨b, 0, none⟩ x).setCell ⟨b, 1, none⟩ y).setCell ⟨b, 2, none⟩ z) := by
  have h3 := h.sets3 h1 h2 hb x y z
  exact ⟨h3.itv k t, h3.bel⟩
set_option maxHeartbeats 8000000 in
set_option maxRecDepth 100000 in
theorem put_kind (w : World) (k : Int) (tx : ByteArray) (a : Option Addr) (c len : Nat) (n t : ByteArray) (l : List Fd) (hlen : len = l.length) (hl : l.length ≤ 1000000) (hI : InF w a l) (hk : k ≠ 0 ∧ k ≠ 2) :
    Calls Tryz.prog 4 #[.agg #[.int .i64 k, .string tx, .slice a len c], .string n, .string t] w fun e w' => ∃ v, e = .returned (.tuple #[v, .bool false, .int .i64 91]) ∧ ItV w' v ⟨k, tx, l⟩ ∧ Below w.heap.size w w' := by
  subst hlen
  have HF := Lib.hid (fun W => find_kind W k tx (.slice a l.length c) n hk)
  have HCp := Lib.hid (fun W (h : Below w.heap.size w W) => copy_calls W k tx a c _ l rfl (hI.below (Nat.le_refl _) h) hl)
  have HC := Lib.hid (fun O => (Cell3.new w (.int .i64 k) (.string tx) (.slice a l.length c) 24).alloc O)
  have HD := Lib.hid (fun O => Cell3.new2 (w.alloc O) (w.heap.size + 1) (by simp) (.int .i64 0) (.string ⟨#[]⟩) (.slice none 0 0) 24)
  clear hI hk
  go_enter Tryz.func4, Tryz.ntmps4
  go_wp2_with fail
  refine (HF.out _).mono ?_
  rintro e w2 ⟨rfl, hb⟩
  have HB := Lib.hid (bstep (bstep (bbox _) (bbox _)) hb)
  have HC2 := Lib.hid ((HC.out _).below hb)
  have HD2 := Lib.hid ((HD.out _).below hb)
  have c0 := HC2.out.c0
  have c1 := HC2.out.c1
  have c2 := HC2.out.c2
  clear hb
  go_wp2_with fail
  refine (HCp.out _ HB.out).mono ?_
  rintro e w3 ⟨v, rfl, hR⟩
  have HD3 := Lib.hid (HD2.out.below hR.bel)
  have d0 := HD3.out.c0
  have d1 := HD3.out.c1
  have d2 := HD3.out.c2
  have g0 := HD3.out.f 0 (by omega)
  have g1 := HD3.out.f 1 (by omega)
  have g2 := HD3.out.f 2 (by omega)
  obtain ⟨sa, sc, rfl, -, -, -⟩ := hR.slice
  have HR := Lib.hid hR
  clear hR c0 c1 c2
  go_wp2_with fail
  exact bodyPost_ret (v := .tuple #[.agg #[.int .i64 k, .string tx, .slice sa l.length sc], .bool false, .int .i64 91]) (by simp [results, Tryz.results4, go_sem, d0, d1, d2]) rfl
    ⟨_, rfl, HR.out.itvS HB.out k tx (by omega) HD2.out.lt _ _ _⟩
set_option maxHeartbeats 8000000 in
set_option maxRecDepth 100000 in
theorem put_big (w : World) (k : Int) (tx : ByteArray) (a : Option Addr) (c len : Nat) (n t : ByteArray) (l A M B : List Fd) (hs : Split n l A M B) (hlen : len = l.length) (hl : l.length ≤ 1000000) (hI : InF w a l) (hk : k = 0 ∨ k = 2) (hb : ¬ ((n.size ≤ 512 ∧ t.size ≤ 4096) ∧ (there M = true ∨ l.length < 256))) :
    Calls Tryz.prog 4 #[.agg #[.int .i64 k, .string tx, .slice a len c], .string n, .string t] w fun e w' => ∃ v, e = .returned (.tuple #[v, .bool false, .int .i64 94]) ∧ ItV w' v ⟨k, tx, l⟩ ∧ Below w.heap.size w w' := by
  subst hlen
  have HF := Lib.hid (fun W (h : Below w.heap.size w W) => find_calls W k tx a c _ n l A M B hs rfl hl (hI.below (Nat.le_refl _) h) hk)
  have HCp := Lib.hid (fun W (h : Below w.heap.size w W) => copy_calls W k tx a c _ l rfl (hI.below (Nat.le_refl _) h) hl)
  have HC := Lib.hid (fun O => (Cell3.new w (.int .i64 k) (.string tx) (.slice a l.length c) 24).alloc O)
  have HD := Lib.hid (fun O => Cell3.new2 (w.alloc O) (w.heap.size + 1) (by simp) (.int .i64 0) (.string ⟨#[]⟩) (.slice none 0 0) 24)
  have HX : Hid (∃ b1 : Bool, (∀ W, Calls Tryz.prog 12 #[.string n, .string t] W fun e w' => e = .returned (.bool b1) ∧ W = w') ∧ (b1 = false ∨ there M = false ∧ ¬ (l.length : Int) < 256)) := Lib.hid ⟨_, fun W => ifits_calls W n t _ rfl, by
    by_cases h1 : n.size ≤ 512 ∧ t.size ≤ 4096
    · refine .inr ⟨?_, ?_⟩
      · cases h2 : there M with
        | false => rfl
        | true => exact absurd ⟨h1, .inl h2⟩ hb
      · intro h2
        exact hb ⟨h1, .inr (by omega)⟩
    · exact .inl (decide_eq_false h1)⟩
  obtain ⟨b1, HY, hY⟩ := HX.out
  have HY := Lib.hid HY
  have hth : ∃ m, there M = m := ⟨_, rfl⟩
  obtain ⟨m, hm⟩ := hth
  rw [hm] at HF hY
  clear hI hk hs hb HX hm
  rcases hY with rfl | ⟨rfl, hlc⟩
  all_goals
    go_enter Tryz.func4, Tryz.ntmps4
    go_wp2_with fail
    refine (HF.out _ (bstep (bbox _) (bbox _))).mono ?_
    rintro e w2 ⟨rfl, hb⟩
    have HB := Lib.hid (bstep (bstep (bbox _) (bbox _)) hb)
    have HC2 := Lib.hid ((HC.out _).below hb)
    have HD2 := Lib.hid ((HD.out _).below hb)
    have c0 := HC2.out.c0
    have c1 := HC2.out.c1
    have c2 := HC2.out.c2
    clear hb
    go_wp2_with fail
    refine (HY.out _).mono ?_
    rintro e w4 ⟨rfl, rfl⟩
    try cases b1
    all_goals
      go_wp2_with fail
      refine (HCp.out _ HB.out).mono ?_
      rintro e w3 ⟨v, rfl, hR⟩
      have HD3 := Lib.hid (HD2.out.below hR.bel)
      have d0 := HD3.out.c0
      have d1 := HD3.out.c1
      have d2 := HD3.out.c2
      have g0 := HD3.out.f 0 (by omega)
      have g1 := HD3.out.f 1 (by omega)
      have g2 := HD3.out.f 2 (by omega)
      obtain ⟨sa, sc, rfl, -, -, -⟩ := hR.slice
      have HR := Lib.hid hR
      clear hR
      go_wp2_with fail
      exact bodyPost_ret (v := .tuple #[.agg #[.int .i64 k, .string tx, .slice sa l.length sc], .bool false, .int .i64 94]) (by simp [results, Tryz.results4, go_sem, d0, d1, d2]) rfl
        ⟨_, rfl, HR.out.itvS HB.out k tx (by omega) HD2.out.lt _ _ _⟩
theorem drew_below {w w2 : World} (h : Below w.heap.size w w2) (n : Nat) : Below w.heap.size w (w2.drewN n) := h.trans ⟨rfl, rfl, rfl, Nat.le_refl _, fun _ _ => rfl⟩
theorem tail_calls (W : World) {a1 a2 : Option Addr} {c1 c2 : Nat} {A B : List Fd} {n t : ByteArray} (h1 : InF W a1 A) (h2 : InF W a2 B) (hs : A.length + B.length ≤ 100000) (T1 T2 : TypeId) :
    Calls Tryz.prog 13 #[.slice (some ⟨W.heap.size + 1, 0, none⟩) 3 3] ((W.alloc (.cells #[.string n, .string t] T1)).alloc (.cells #[.slice a1 A.length c1, .slice (some ⟨W.heap.size, 0, none⟩) 1 1, .slice a2 B.length c2] T2))
      fun e w' => ∃ v, e = .returned (.agg #[.int .i64 2, .string ⟨#[]⟩, v]) ∧ RowF ((W.alloc (.cells #[.string n, .string t] T1)).alloc (.cells #[.slice a1 A.length c1, .slice (some ⟨W.heap.size, 0, none⟩) 1 1, .slice a2 B.length c2] T2)) w' v (A ++ [(n, t)] ++ B) := by
  have hP := inP_three (w := W.alloc (.cells #[.string n, .string t] T1)) (c1 := c1) (c2 := c2) (b2 := W.heap.size) (f := (n, t)) (h1.below (Nat.le_refl _) (bbox _)) (h2.below (Nat.le_refl _) (bbox _)) (by simp) (by rw [World.cell?_alloc_new]; rfl) (by rw [World.cell?_alloc_new]; rfl) T2
  have hz : (W.alloc (.cells #[.string n, .string t] T1)).heap.size = W.heap.size + 1 := by simp
  rw [hz] at hP
  have h := hashItem_calls _ (W.heap.size + 1) 3 3 _ rfl hP (by simp [sumP]; omega) (by simp)
  have e : allP [(a1, c1, A), (some ⟨W.heap.size, 0, none⟩, 1, [(n, t)]), (a2, c2, B)] = A ++ [(n, t)] ++ B := by simp [allP]
  rw [e] at h
  exact h
set_option maxHeartbeats 8000000 in
set_option maxRecDepth 100000 in
theorem put_fits (w : World) (k : Int) (tx : ByteArray) (a : Option Addr) (c len : Nat) (n t : ByteArray) (l A M B : List Fd) (hs : Split n l A M B) (hlen : len = l.length) (hcap : l.length ≤ c) (hcap2 : c ≤ 9223372036854775807) (hl : l.length ≤ 1000) (hI : InF w a l) (hk : k = 0 ∨ k = 2) (hb : (n.size ≤ 512 ∧ t.size ≤ 4096) ∧ (there M = true ∨ l.length < 256)) :
    Calls Tryz.prog 4 #[.agg #[.int .i64 k, .string tx, .slice a len c], .string n, .string t] w fun e w' => ∃ v, e = .returned (.tuple #[v, .bool (!there M), .int .i64 0]) ∧ ItV w' v ⟨2, ⟨#[]⟩, A ++ [(n, t)] ++ B⟩ ∧ Below w.heap.size w w' := by
  subst hlen
  have HF := Lib.hid (fun W (h : Below w.heap.size w W) => find_calls W k tx a c _ n l A M B hs rfl (by omega) (hI.below (Nat.le_refl _) h) hk)
  have HC := Lib.hid (fun O => (Cell3.new w (.int .i64 k) (.string tx) (.slice a l.length c) 24).alloc O)
  have HD := Lib.hid (fun O => Cell3.new2 (w.alloc O) (w.heap.size + 1) (by simp) (.int .i64 0) (.string ⟨#[]⟩) (.slice none 0 0) 24)
  have HY := Lib.hid (fun W => ifits_calls W n t true (decide_eq_true hb.1))
  obtain ⟨a1, c1x, r1, I1⟩ := cut_front hI (hs.e.trans (List.append_assoc _ _ _)) rfl hcap rfl
  obtain ⟨a2, c2x, r2, I2, k2, k3⟩ := cut_back hI (hs.e.trans (List.append_assoc _ _ _)) rfl hcap rfl hcap2
  have HI1 := Lib.hid I1
  have HLN := hs.len
  have hML : (M ++ B).length = M.length + B.length := List.length_append
  have HI3 : Hid (∃ a3 c3, ((M = [] ∧ a3 = a2 ∧ c3 = c2x ∧ M.length = 0) ∨ M ≠ [] ∧ (∀ w2 : World, Sem.run Tryz.prog (Instr.sliceAt 22 (.slice a2 (M ++ B).length c2x) (some (.int .i64 1)) none none) w2 = .ok (.slice a3 B.length c3) w2)) ∧ InF w a3 B) := Lib.hid (by
    rcases M_cases hs with hM | ⟨x, hM⟩
    · exact ⟨a2, c2x, .inl ⟨hM, rfl, rfl, by simp [hM]⟩, by rw [hM] at I2; exact I2⟩
    · obtain ⟨a3, c3, r3, I3, -, -⟩ := cut_back (at' := 1) (x := [(n, x)]) (y := B) I2 (by rw [hM]) rfl k2 rfl k3
      exact ⟨a3, c3, .inr ⟨by rw [hM]; simp, r3⟩, I3⟩)
  obtain ⟨a3, c3, h3, I3⟩ := HI3.out
  have HJ3 := Lib.hid I3
  have hAB : A.length + B.length ≤ 100000 := by omega
  clear HI3
  have hth : (M = [] → there M = false) ∧ (M ≠ [] → there M = true) := ⟨fun h => by rw [h]; rfl, fun h => by cases M with | nil => exact absurd rfl h | cons x y => rfl⟩
  have hor := hb.2
  have hlA : A.length ≤ l.length := by omega
  clear hI hk hs hb I1 I2 I3
  rcases h3 with ⟨hM, rfl, rfl, hM0⟩ | ⟨hM, r3⟩
  · have hm := hth.1 hM
    have hlt : (l.length : Int) < 256 := by rcases hor with h | h; · rw [hm] at h; cases h
                                            · omega
    have hB0 : (M ++ B).length = B.length := by omega
    rw [hB0] at r2
    rw [hm] at HF ⊢
    clear hth hor hM hm HLN hML hM0 hB0
    go_enter Tryz.func4, Tryz.ntmps4
    go_wp2_with fail
    refine (HF.out _ (bstep (bbox _) (bbox _))).mono ?_
    rintro e w2 ⟨rfl, hb⟩
    have HB := Lib.hid (bstep (bstep (bbox _) (bbox _)) hb)
    have HC2 := Lib.hid ((HC.out _).below hb)
    have HD2 := Lib.hid ((HD.out _).below hb)
    have c0 := HC2.out.c0
    have c1 := HC2.out.c1
    have c2 := HC2.out.c2
    clear hb
    go_wp2_with fail
    refine (HY.out _).mono ?_
    rintro e w4 ⟨rfl, rfl⟩
    go_wp2_with fail
    go_quiet (fail)
    go_wp2_with fail
    refine (tail_calls (w2.drewN nq) (HI1.out.below (Nat.le_refl _) (drew_below HB.out nq)) (HJ3.out.below (Nat.le_refl _) (drew_below HB.out nq)) hAB _ _).mono ?_
    rintro e w3 ⟨v, rfl, hR⟩
    have HD3 := Lib.hid (((HD2.out.below (drew_below (Below.refl _ _) nq)).alloc _ |>.alloc _).below hR.bel)
    have d0 := HD3.out.c0
    have d1 := HD3.out.c1
    have d2 := HD3.out.c2
    have g0 := HD3.out.f 0 (by omega)
    have g1 := HD3.out.f 1 (by omega)
    have g2 := HD3.out.f 2 (by omega)
    obtain ⟨sa, sc, rfl, -, -, -⟩ := hR.slice
    have HR := Lib.hid hR
    clear hR
    go_wp2_with fail
    exact bodyPost_ret (v := .tuple #[.agg #[.int .i64 2, .string ⟨#[]⟩, .slice sa (A ++ [(n, t)] ++ B).length sc], .bool true, .int .i64 0]) (by simp [results, Tryz.results4, go_sem, d0, d1, d2]) rfl
      ⟨_, rfl, HR.out.itvS (bstep (drew_below HB.out nq) (bstep (bbox _) (bbox _))) 2 ⟨#[]⟩ (by omega) (by have := HD2.out.lt; simp; omega) _ _ _⟩
  · have hm := hth.2 hM
    obtain ⟨N, hN⟩ : ∃ N, (M ++ B).length = N := ⟨_, rfl⟩
    rw [hN] at r2 r3
    rw [hm] at HF ⊢
    clear hth hor hM hm HLN hML k2 hN
    go_enter Tryz.func4, Tryz.ntmps4
    go_wp2_with fail
    refine (HF.out _ (bstep (bbox _) (bbox _))).mono ?_
    rintro e w2 ⟨rfl, hb⟩
    have HB := Lib.hid (bstep (bstep (bbox _) (bbox _)) hb)
    have HC2 := Lib.hid ((HC.out _).below hb)
    have HD2 := Lib.hid ((HD.out _).below hb)
    have c0 := HC2.out.c0
    have c1 := HC2.out.c1
    have c2 := HC2.out.c2
    clear hb
    go_wp2_with fail
    refine (HY.out _).mono ?_
    rintro e w4 ⟨rfl, rfl⟩
    go_wp2_with fail
    go_quiet (fail)
    go_wp2_with fail
    refine (tail_calls (w2.drewN nq) (HI1.out.below (Nat.le_refl _) (drew_below HB.out nq)) (HJ3.out.below (Nat.le_refl _) (drew_below HB.out nq)) hAB _ _).mono ?_
    rintro e w3 ⟨v, rfl, hR⟩
    have HD3 := Lib.hid (((HD2.out.below (drew_below (Below.refl _ _) nq)).alloc _ |>.alloc _).below hR.bel)
    have d0 := HD3.out.c0
    have d1 := HD3.out.c1
    have d2 := HD3.out.c2
    have g0 := HD3.out.f 0 (by omega)
    have g1 := HD3.out.f 1 (by omega)
    have g2 := HD3.out.f 2 (by omega)
    obtain ⟨sa, sc, rfl, -, -, -⟩ := hR.slice
    have HR := Lib.hid hR
    clear hR
    go_wp2_with fail
    exact bodyPost_ret (v := .tuple #[.agg #[.int .i64 2, .string ⟨#[]⟩, .slice sa (A ++ [(n, t)] ++ B).length sc], .bool false, .int .i64 0]) (by simp [results, Tryz.results4, go_sem, d0, d1, d2]) rfl
      ⟨_, rfl, HR.out.itvS (bstep (drew_below HB.out nq) (bstep (bbox _) (bbox _))) 2 ⟨#[]⟩ (by omega) (by have := HD2.out.lt; simp; omega) _ _ _⟩
end Go.Proofs.YtfljonmfkjblhaaGreatDoor.Ia
