/- item.Copy, hashItem, textItem, textOf, fits: at any item. No condition but bounds. -/
import Derived.Test.YtfljonmfkjblhaaGreatDoorIa3
namespace Go.Proofs.YtfljonmfkjblhaaGreatDoor.Ia
open Go.ChangeShapes Go.WideShapes Go.ChangeAt Go.RowKit
/-- An item's three cells in a block of the call's own. -/
structure Cell3 (w : World) (b : Nat) (v0 v1 v2 : Value) : Prop where
  lt : b < w.heap.size
  c0 : w.cell? ⟨b, 0, none⟩ = some v0
  c1 : w.cell? ⟨b, 1, none⟩ = some v1
  c2 : w.cell? ⟨b, 2, none⟩ = some v2
  f : ∀ i, i < 3 → w.frozen? ⟨b, i, none⟩ = false
theorem Cell3.below {W w : World} {b : Nat} {v0 v1 v2 : Value} (h : Cell3 W b v0 v1 v2) (hb : Below W.heap.size W w) : Cell3 w b v0 v1 v2 :=
  ⟨Nat.lt_of_lt_of_le h.lt hb.size, (hb.cell (p := ⟨b, 0, none⟩) h.lt).trans h.c0, (hb.cell (p := ⟨b, 1, none⟩) h.lt).trans h.c1, (hb.cell (p := ⟨b, 2, none⟩) h.lt).trans h.c2, fun i hi => (hb.frozen (p := ⟨b, i, none⟩) h.lt).trans (h.f i hi)⟩
theorem Cell3.alloc {W : World} {b : Nat} {v0 v1 v2 : Value} (h : Cell3 W b v0 v1 v2) (o : Obj) : Cell3 (W.alloc o) b v0 v1 v2 := h.below (bbox o)
theorem Cell3.new (w : World) (v0 v1 v2 : Value) (T : TypeId) : Cell3 (w.alloc (.cells #[v0, v1, v2] T)) w.heap.size v0 v1 v2 := by
  refine ⟨by simp, ?_, ?_, ?_, fun i hi => ?_⟩
  · rw [World.cell?_alloc_new]; rfl
  · rw [World.cell?_alloc_new]; rfl
  · rw [World.cell?_alloc_new]; rfl
  · go_simp
theorem Cell3.new2 (w : World) (b : Nat) (hb : w.heap.size = b) (v0 v1 v2 : Value) (T : TypeId) : Cell3 (w.alloc (.cells #[v0, v1, v2] T)) b v0 v1 v2 := by subst hb; exact Cell3.new w v0 v1 v2 T
/-- An item as a value. -/
def ItV (w : World) (v : Value) (i : It) : Prop := ∃ a c, v = .agg #[.int .i64 i.k, .string i.t, .slice a i.l.length c] ∧ i.l.length ≤ c ∧ c ≤ 9223372036854775807 ∧ InF w a i.l
theorem ItV.below {w w' : World} {v : Value} {i : It} (h : ItV w v i) (hb : Below w.heap.size w w') : ItV w' v i := by
  obtain ⟨a, c, e, h1, h2, h3⟩ := h
  exact ⟨a, c, e, h1, h2, h3.below (Nat.le_refl _) hb⟩
theorem RowF.itv {wb w : World} {v : Value} {l : List Fd} (h : RowF wb w v l) (k : Int) (t : ByteArray) : ItV w (.agg #[.int .i64 k, .string t, v]) ⟨k, t, l⟩ := by
  obtain ⟨a, c, rfl, h1, h2, h3⟩ := h.slice
  exact ⟨a, c, rfl, h1, h2, h3⟩
theorem inP_one {w : World} {a : Option Addr} {c : Nat} {l : List Fd} (hI : InF w a l) (T : TypeId) : InP (w.alloc (.cells #[.slice a l.length c] T)) w.heap.size [(a, c, l)] := by
  refine ⟨by simp, fun i hi => ?_⟩
  obtain rfl : i = 0 := by simpa using hi
  refine ⟨by rw [World.cell?_alloc_new]; rfl, hI.below (Nat.le_refl _) (bbox _)⟩
theorem own_set {w : World} {B sz n b : Nat} {e : TypeId} {v : Value} {xs : List Value} (h : w.ownsRow B e sz v n xs) (hb : b < B) (i : Nat) (u : Value) : (w.setCell ⟨b, i, none⟩ u).ownsRow B e sz v n xs :=
  h.kept (row := some b) ⟨rfl, rfl, rfl, by simp [World.setCell], fun k _ hk => Below.heap_setCell _ _ _ _ (fun e => hk (by rw [e]))⟩ (.inr fun e => by have := (h.lt _ e).1; omega)
theorem own_lower {w : World} {B B' sz n : Nat} {e : TypeId} {v : Value} {xs : List Value} (h : w.ownsRow B e sz v n xs) (hb : B' ≤ B) : w.ownsRow B' e sz v n xs := by
  refine ⟨h.1, ?_⟩
  rcases h.2 with h | ⟨g, cap, cur, h1, h2, h3⟩
  · exact Or.inl h
  · exact Or.inr ⟨g, cap, cur, h1, Nat.le_trans hb h2, h3⟩
theorem RowF.over {wa wb w : World} {v : Value} {l : List Fd} (h : RowF wb w v l) (hb : Below wa.heap.size wa wb) : RowF wa w v l := ⟨own_lower h.row hb.size, hb.trans (h.bel.mono hb.size)⟩
/-- The row lies from block B on; of wa all stands. -/
def RowB (B : Nat) (wa w : World) (v : Value) (l : List Fd) : Prop := w.ownsRow B 44 2 v l.length (cellsF l) ∧ Below wa.heap.size wa w
theorem RowF.toB {wa wb w : World} {v : Value} {l : List Fd} (h : RowF wb w v l) (hb : Below wa.heap.size wa wb) : RowB wb.heap.size wa w v l := ⟨h.row, (h.over hb).bel⟩
theorem RowB.set {B : Nat} {wa w : World} {v : Value} {l : List Fd} (h : RowB B wa w v l) {b : Nat} (h1 : wa.heap.size ≤ b) (h2 : b < B) (i : Nat) (u : Value) : RowB B wa (w.setCell ⟨b, i, none⟩ u) v l :=
  ⟨own_set h.1 h2 i u, h.2.setCell (p := ⟨b, i, none⟩) h1 u⟩
theorem RowB.toF {B : Nat} {wa w : World} {v : Value} {l : List Fd} (h : RowB B wa w v l) (hB : wa.heap.size ≤ B) : RowF wa w v l := ⟨own_lower h.1 hB, h.2⟩
theorem RowF.sets3 {wa wb w : World} {v : Value} {l : List Fd} (h : RowF wb w v l) {b : Nat} (h1 : wa.heap.size ≤ b) (h2 : b < wb.heap.size) (hb : Below wa.heap.size wa wb) (x y z : Value) :
    RowF wa (((w.setCell ⟨b, 0, none⟩ x).setCell ⟨b, 1, none⟩ y).setCell ⟨b, 2, none⟩ z) v l :=
  ((((h.toB hb).set h1 h2 _ _).set h1 h2 _ _).set h1 h2 _ _).toF hb.size
set_option maxHeartbeats 4000000 in
theorem textItem_calls (w : World) (s : ByteArray) :
    Calls Tryz.prog 15 #[.string s] w fun e w' => e = .returned (.agg #[.int .i64 1, .string s, .slice none 0 0]) ∧ Below w.heap.size w w' := by
  go_enter Tryz.func15, Tryz.ntmps15
  go_wp2_with fail
  exact bodyPost_ret (v := .agg #[.int .i64 1, .string s, .slice none 0 0]) (by simp [results, Tryz.results15, go_sem]) rfl ⟨rfl, bbox _⟩
set_option maxHeartbeats 4000000 in
theorem textOf_calls (w : World) (k : Int) (t d : ByteArray) (v : Value) (a : ByteArray) (b : Int) (hab : (if k = 0 then (d, (0 : Int)) else if k = 1 then (t, 0) else (⟨#[]⟩, 91)) = (a, b)) :
    Calls Tryz.prog 19 #[.agg #[.int .i64 k, .string t, v], .string d] w fun e w' => e = .returned (.tuple #[.string a, .int .i64 b]) ∧ Below w.heap.size w w' := by
  by_cases h0 : k = 0
  · subst h0
    rw [if_pos rfl] at hab
    injection hab with e1 e2
    subst e1 e2
    go_enter Tryz.func19, Tryz.ntmps19
    go_wp2_with fail
    go_ret2
    exact ⟨rfl, bbox _⟩
  · by_cases h1 : k = 1
    · subst h1
      rw [if_neg (by omega), if_pos rfl] at hab
      injection hab with e1 e2
      subst e1 e2
      go_enter Tryz.func19, Tryz.ntmps19
      go_wp2_with fail
      go_ret2
      exact ⟨rfl, bbox _⟩
    · rw [if_neg h0, if_neg h1] at hab
      injection hab with e1 e2
      subst e1 e2
      go_enter Tryz.func19, Tryz.ntmps19
      go_wp2_with fail
      go_ret2
      exact ⟨rfl, bbox _⟩
set_option maxHeartbeats 4000000 in
theorem ifits_calls (w : World) (n t : ByteArray) (b : Bool) (hb : decide (n.size ≤ 512 ∧ t.size ≤ 4096) = b) :
    Calls Tryz.prog 12 #[.string n, .string t] w fun e w' => e = .returned (.bool b) ∧ w = w' := by
  by_cases h1 : n.size ≤ 512
  · have h1c : (n.size : Int) ≤ 512 := by omega
    by_cases h2 : t.size ≤ 4096
    · have h2c : (t.size : Int) ≤ 4096 := by omega
      obtain rfl : b = true := by rw [← hb]; exact decide_eq_true ⟨h1, h2⟩
      clear hb
      go_enter Tryz.func12, Tryz.ntmps12
      go_wp2_with fail
      go_ret
      exact ⟨by simp, rfl⟩
    · have h2c : ¬ (t.size : Int) ≤ 4096 := by omega
      obtain rfl : b = false := by rw [← hb]; exact decide_eq_false (fun h => h2 h.2)
      clear hb
      go_enter Tryz.func12, Tryz.ntmps12
      go_wp2_with fail
      go_ret
      exact ⟨by simp, rfl⟩
  · have h1c : ¬ (n.size : Int) ≤ 512 := by omega
    obtain rfl : b = false := by rw [← hb]; exact decide_eq_false (fun h => h1 h.1)
    clear hb
    go_enter Tryz.func12, Tryz.ntmps12
    go_wp2_with fail
    go_ret
    exact ⟨by simp, rfl⟩
set_option maxHeartbeats 4000000 in
set_option maxRecDepth 100000 in
theorem hashItem_calls (w : World) (B c n : Nat) (p : List Pt) (hn : n = p.length) (hI : InP w B p) (hs : sumP p ≤ 1000000) (hp : p.length ≤ 1000) :
    Calls Tryz.prog 13 #[.slice (some ⟨B, 0, none⟩) n c] w fun e w' => ∃ v, e = .returned (.agg #[.int .i64 2, .string ⟨#[]⟩, v]) ∧ RowF w w' v (allP p) := by
  subst hn
  have HI := Lib.hid hI
  clear hI
  go_enter Tryz.func13, Tryz.ntmps13
  go_wp2_with fail
  refine (concat_calls _ B c _ p rfl (HI.out.below (bbox _)) hs hp).mono ?_
  rintro e w2 ⟨v, rfl, hR⟩
  have HC := Lib.hid ((Cell3.new w _ _ _ _).below hR.bel)
  obtain ⟨sa, sc, rfl, -, -, -⟩ := hR.slice
  have HR := Lib.hid hR
  have c0 := HC.out.c0
  have c1 := HC.out.c1
  have c2 := HC.out.c2
  have f0 := HC.out.f 0 (by omega)
  have f1 := HC.out.f 1 (by omega)
  have f2 := HC.out.f 2 (by omega)
  clear hR
  go_wp2_with fail
  refine bodyPost_ret (v := .agg #[.int .i64 2, .string ⟨#[]⟩, .slice sa (allP p).length sc]) (by simp [results, Tryz.results13, go_sem, c0, c1, c2]) rfl ⟨_, rfl, ?_⟩
  exact HR.out.sets3 (Nat.le_refl _) (by simp) (bbox _) _ _ _
set_option maxHeartbeats 4000000 in
set_option maxRecDepth 100000 in
theorem copy_calls (w : World) (k : Int) (t : ByteArray) (a : Option Addr) (c n : Nat) (l : List Fd) (hn : n = l.length) (hI : InF w a l) (hl : l.length ≤ 1000000) :
    Calls Tryz.prog 11 #[.agg #[.int .i64 k, .string t, .slice a n c]] w fun e w' => ∃ v, e = .returned (.agg #[.int .i64 k, .string t, v]) ∧ RowF w w' v l := by
  subst hn
  have HP : Hid (∀ O1 O2 T, InP (((w.alloc O1).alloc O2).alloc (.cells #[.slice a l.length c] T)) (w.heap.size + 2) [(a, c, l)]) := Lib.hid (fun O1 O2 T => by
    have h := inP_one (c := c) (hI.below (Nat.le_refl _) (bstep (bbox O1) (bbox O2))) T
    simpa using h)
  clear hI
  go_enter Tryz.func11, Tryz.ntmps11
  go_wp2_with fail
  refine (concat_calls _ (w.heap.size + 2) 1 1 [(a, c, l)] rfl (HP.out _ _ _) (by simpa [sumP] using hl) (by simp)).mono ?_
  rintro e w2 ⟨v, rfl, hR⟩
  have HC := Lib.hid ((((Cell3.new w _ _ _ _).alloc _).alloc _).below hR.bel)
  have HD := Lib.hid (((Cell3.new2 (w.alloc _) (w.heap.size + 1) (by simp) _ _ _ _).alloc _).below hR.bel)
  have e : allP [(a, c, l)] = l := by simp [allP]
  rw [e] at hR
  obtain ⟨sa, sc, rfl, -, -, -⟩ := hR.slice
  have HR := Lib.hid hR
  have c0 := HC.out.c0
  have c1 := HC.out.c1
  have c2 := HC.out.c2
  have f0 := HC.out.f 0 (by omega)
  have f1 := HC.out.f 1 (by omega)
  have f2 := HC.out.f 2 (by omega)
  have d0 := HD.out.c0
  have d1 := HD.out.c1
  have d2 := HD.out.c2
  have g0 := HD.out.f 0 (by omega)
  have g1 := HD.out.f 1 (by omega)
  have g2 := HD.out.f 2 (by omega)
  clear hR e
  go_wp2_with fail
  exact bodyPost_ret (v := .agg #[.int .i64 k, .string t, .slice sa l.length sc]) (by simp [results, Tryz.results11, go_sem, d0, d1, d2]) rfl
    ⟨_, rfl, (((((HR.out.toB (bstep (bstep (bbox _) (bbox _)) (bbox _))).set (Nat.le_refl _) (by simp; omega) _ _).set (by omega) (by simp) _ _).set (by omega) (by simp) _ _).set (by omega) (by simp) _ _).toF (by simp; omega)⟩
end Go.Proofs.YtfljonmfkjblhaaGreatDoor.Ia
