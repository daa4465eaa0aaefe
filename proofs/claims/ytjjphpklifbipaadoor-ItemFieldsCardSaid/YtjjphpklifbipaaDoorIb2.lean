/- The checking package's Drop of layer 9. No condition but bounds. -/
import Derived.Test.YtjjphpklifbipaaDoorIb1
namespace Go.Proofs.YtjjphpklifbipaaDoor.Ia
open Go.ChangeShapes Go.WideShapes Go.ChangeAt Go.RowKit
theorem cell_set_self {w : World} {p : Addr} {u x : Value} (h : w.cell? p = some x) (hs : p.spot = none) : (w.setCell p u).cell? p = some u := by
  obtain ⟨b, o, s⟩ := p
  subst hs
  go_simp
theorem frozen_set (w : World) (p q : Addr) (u : Value) : (w.setCell p u).frozen? q = w.frozen? q := by go_simp
theorem Cell3.setOther {w : World} {b b2 i : Nat} {v0 v1 v2 : Value} (h : Cell3 w b v0 v1 v2) (hne : b ≠ b2) (u : Value) : Cell3 (w.setCell ⟨b2, i, none⟩ u) b v0 v1 v2 := by
  have hb : Below b2 w (w.setCell ⟨b2, i, none⟩ u) := (Below.refl _ _).setCell (p := ⟨b2, i, none⟩) (Nat.le_refl _) u
  have e : (w.setCell ⟨b2, i, none⟩ u).heap[b]? = w.heap[b]? := Below.heap_setCell w ⟨b2, i, none⟩ u b hne
  exact ⟨by have := h.lt; simpa [World.setCell] using this, (World.cell?_of_block (a := ⟨b, 0, none⟩) e).trans h.c0, (World.cell?_of_block (a := ⟨b, 1, none⟩) e).trans h.c1, (World.cell?_of_block (a := ⟨b, 2, none⟩) e).trans h.c2, fun j hj => (World.frozen?_of_block (a := ⟨b, j, none⟩) e).trans (h.f j hj)⟩
theorem Cell3.set2 {w : World} {b : Nat} {v0 v1 v2 : Value} (h : Cell3 w b v0 v1 v2) (u : Value) : Cell3 (w.setCell ⟨b, 2, none⟩ u) b v0 v1 u := by
  have c0 := h.c0
  have c1 := h.c1
  have c2 := h.c2
  refine ⟨by have := h.lt; simpa [World.setCell] using this, ?_, ?_, ?_, fun j hj => (frozen_set _ _ _ _).trans (h.f j hj)⟩
  · go_simp
  · go_simp
  · exact cell_set_self c2 rfl
def dropF (n : ByteArray) (l : List Fd) : List Fd := l.filter fun f => !(f.1.toList == n.toList)
theorem dropF_take {l : List Fd} {n : ByteArray} {j : Nat} (hj : j < l.length) : dropF n (l.take (j + 1)) = dropF n (l.take j) ++ (if (l[j].1.toList == n.toList) then [] else [l[j]]) := by
  unfold dropF
  rw [← List.take_append_getElem hj, List.filter_append]
  cases h : (l[j].1.toList == n.toList) <;> simp [h]
theorem dropF_len (n : ByteArray) (l : List Fd) : (dropF n l).length ≤ l.length := List.length_filter_le _ _
theorem Split.dropF {n : ByteArray} {l A M B : List Fd} (h : Split n l A M B) : Ia.dropF n l = A ++ B := by
  unfold Ia.dropF
  rw [h.e, List.filter_append, List.filter_append]
  rw [List.filter_eq_self.2 (fun f hf => by rw [lt_ne (h.a f hf)]; rfl), List.filter_eq_nil_iff.2 (fun f hf => by rw [h.m f hf]; simp), List.filter_eq_self.2 (fun f hf => by rw [lt_ne2 (h.b f hf)]; rfl), List.append_nil]
set_option maxHeartbeats 8000000 in
set_option maxRecDepth 100000 in
theorem refDrop_calls (w : World) (k : Int) (t : ByteArray) (a : Option Addr) (c len : Nat) (n : ByteArray) (l : List Fd) (hlen : len = l.length) (hl : l.length ≤ 1000) (hI : InF w a l) (hk : k ≠ 1) (b0 : Bool) (hb0 : decide ((dropF n l).length < l.length) = b0) (i0 : It) (hi0 : (if (dropF n l).length = 0 then ⟨0, ⟨#[]⟩, []⟩ else ⟨k, ⟨#[]⟩, dropF n l⟩ : It) = i0) :
    Calls Tryd.prog 25 #[.agg #[.int .i64 k, .string t, .slice a len c], .string n] w fun e w' => ∃ v, e = .returned (.tuple #[v, .bool b0, .int .i64 0]) ∧ ItV w' v i0 ∧ Below w.heap.size w w' := by
  subst hlen
  have HB0 := Lib.hid hb0
  have HI0 := Lib.hid hi0
  clear hb0 hi0
  have HI := Lib.hid hI
  have hkb : (k == 1) = false := by rw [beq_eq_false_iff_ne]; exact hk
  have HC0 := Lib.hid (fun O1 O2 => ((Cell3.new w (.int .i64 k) (.string t) (.slice a l.length c) 24).alloc O1).alloc O2)
  have HC1 := Lib.hid (fun O O2 => (Cell3.new2 (w.alloc O) (w.heap.size + 1) (by simp) (.int .i64 0) (.string ⟨#[]⟩) (.slice none 0 0) 24).alloc O2)
  have HC2 := Lib.hid (fun O O2 => Cell3.new2 ((w.alloc O).alloc O2) (w.heap.size + 2) (by simp) (.int .i64 k) (.string ⟨#[]⟩) (.slice none 0 0) 24)
  clear hI hk
  go_enter Tryd.func25, Tryd.ntmps25
  go_wp2_with fail
  go_loopg [9, 21] (l.length + 1) (fun g _ vi wr => ∃ (j : Nat) (v : Value), vi = .int .i64 j ∧ j ≤ l.length ∧ l.length - j ≤ g ∧ w.heap.size + 3 ≤ wr.heap.size ∧ Hid (RowB (w.heap.size + 3) w wr v (dropF n (l.take j))) ∧ Hid (Cell3 wr w.heap.size (.int .i64 k) (.string t) (.slice a l.length c)) ∧ Hid (Cell3 wr (w.heap.size + 1) (.int .i64 0) (.string ⟨#[]⟩) (.slice none 0 0)) ∧ Hid (Cell3 wr (w.heap.size + 2) (.int .i64 k) (.string ⟨#[]⟩) v))
  case atStart => exact ⟨0, .slice none 0 0, rfl, by omega, by omega, by simp, Lib.hid (rowB_nil _ _ _ (bstep (bbox _) (bstep (bbox _) (bbox _)))), Lib.hid (HC0.out _ _), Lib.hid (HC1.out _ _), Lib.hid (HC2.out _ _)⟩
  case round =>
    obtain ⟨j, v, rfl, hj, hg, hsz, HR, H0, H1, H2⟩ := hrel
    clear HC0 HC1 HC2
    obtain ⟨va, vc, rfl, hvl, hvc⟩ := HR.out.slice
    have f0 := H2.out.c0
    have f1 := H2.out.c1
    have f2 := H2.out.c2
    have y2 := H2.out.f 2 (by omega)
    have hdl := dropF_len n (l.take j)
    rw [List.length_take] at hdl
    by_cases hjl : j < l.length
    case neg =>
      have hjc : ¬ ((j : Int) < (l.length : Int)) := by omega
      obtain rfl : j = l.length := by omega
      have c0 := H0.out.c0
      have c1 := H0.out.c1
      have c2 := H0.out.c2
      have d0 := H1.out.c0
      have d1 := H1.out.c1
      have d2 := H1.out.c2
      have g0 := H1.out.f 0 (by omega)
      have g1 := H1.out.f 1 (by omega)
      have g2 := H1.out.f 2 (by omega)
      have y0 := H2.out.f 0 (by omega)
      have y1 := H2.out.f 1 (by omega)
      have HR2 : Hid (∀ x y z, RowF w (((wr.setCell ⟨w.heap.size + 1, 0, none⟩ x).setCell ⟨w.heap.size + 1, 1, none⟩ y).setCell ⟨w.heap.size + 1, 2, none⟩ z) (.slice va (dropF n (l.take l.length)).length vc) (dropF n (l.take l.length))) := Lib.hid (fun x y z => (((HR.out.set (by omega) (by omega) _ _).set (by omega) (by omega) _ _).set (by omega) (by omega) _ _).toF (by omega))
      have HB5 : Hid (∀ x1 x2 x3 x y z, Below w.heap.size w ((((((wr.setCell ⟨w.heap.size + 1 + 1, 0, none⟩ x1).setCell ⟨w.heap.size + 1 + 1, 1, none⟩ x2).setCell ⟨w.heap.size + 1 + 1, 2, none⟩ x3).setCell ⟨w.heap.size + 1, 0, none⟩ x).setCell ⟨w.heap.size + 1, 1, none⟩ y).setCell ⟨w.heap.size + 1, 2, none⟩ z)) := Lib.hid (fun x1 x2 x3 x y z =>
        (((((HR.out.2.setCell (p := ⟨w.heap.size + 1 + 1, 0, none⟩) (by show _ ≤ w.heap.size + 1 + 1; omega) x1).setCell (p := ⟨w.heap.size + 1 + 1, 1, none⟩) (by show _ ≤ w.heap.size + 1 + 1; omega) x2).setCell (p := ⟨w.heap.size + 1 + 1, 2, none⟩) (by show _ ≤ w.heap.size + 1 + 1; omega) x3).setCell (p := ⟨w.heap.size + 1, 0, none⟩) (by show _ ≤ w.heap.size + 1; omega) x).setCell (p := ⟨w.heap.size + 1, 1, none⟩) (by show _ ≤ w.heap.size + 1; omega) y).setCell (p := ⟨w.heap.size + 1, 2, none⟩) (by show _ ≤ w.heap.size + 1; omega) z)
      rw [List.take_length] at *
      generalize dropF n l = r at *
      by_cases hz : r.length = 0
      · have hz2 : ((r.length : Int) == 0) = true := by rw [hz]; rfl
        have HZ := Lib.hid hz
        have HB1 : Hid (b0 = decide (r.length < l.length)) := Lib.hid HB0.out.symm
        obtain rfl : i0 = ⟨0, ⟨#[]⟩, []⟩ := by rw [← HI0.out, if_pos HZ.out]
        clear hz HI0 HB0
        go_wp2_with fail
        exact bodyPost_ret (v := .tuple #[.agg #[.int .i64 0, .string ⟨#[]⟩, .slice none 0 0], .bool (decide (r.length < l.length)), .int .i64 0]) (by simp [results, Tryd.results25, go_sem, d0, d1, d2]) rfl ⟨_, by rw [HB1.out]; rfl, ⟨none, 0, rfl, Nat.zero_le _, Nat.zero_le _, InF.nil _ _⟩, (HB5.out _ _ _ _ _ _)⟩
      · have hz2 : ((r.length : Int) == 0) = false := by rw [beq_eq_false_iff_ne]; omega
        have HZ := Lib.hid hz
        have HB1 : Hid (b0 = decide (r.length < l.length)) := Lib.hid HB0.out.symm
        obtain rfl : i0 = ⟨k, ⟨#[]⟩, r⟩ := by rw [← HI0.out, if_neg HZ.out]
        clear hz HI0 HB0
        go_wp2_with fail
        exact bodyPost_ret (v := .tuple #[.agg #[.int .i64 k, .string ⟨#[]⟩, .slice va r.length vc], .bool (decide (r.length < l.length)), .int .i64 0]) (by simp [results, Tryd.results25, go_sem, d0, d1, d2]) rfl ⟨_, by rw [HB1.out], (HR2.out _ _ _).itv k ⟨#[]⟩, (HR2.out _ _ _).bel⟩
    case pos =>
      have hjc : (j : Int) < (l.length : Int) := by omega
      obtain ⟨b, o, rfl, hlt2, hcs⟩ := HI.out (by omega)
      obtain ⟨c0, c1⟩ := hcs j hjl
      have e : ∀ j, wr.cell? ⟨b, j, none⟩ = w.cell? ⟨b, j, none⟩ := fun j => HR.out.2.cell (p := ⟨b, j, none⟩) hlt2
      rw [← e] at c0 c1
      have HT := Lib.hid (dropF_take (n := n) hjl)
      clear hcs e hlt2
      generalize l[j] = q at *
      obtain ⟨x, y⟩ := q
      have c0 : wr.cell? ⟨b, o + j * 2, none⟩ = some (.string x) := c0
      have c1 : wr.cell? ⟨b, o + j * 2 + 1, none⟩ = some (.string y) := c1
      have HRa := Lib.hid (fun O => HR.out.alloc (by omega) O)
      have H0a := Lib.hid (fun O => H0.out.alloc O)
      have H1a := Lib.hid (fun O => H1.out.alloc O)
      have H2a := Lib.hid (fun O => H2.out.alloc O)
      cases he : (x.toList == n.toList)
      case true =>
        have hne : (!(x.toList == n.toList)) = false := by rw [he]; rfl
        have HZ : Hid (dropF n (l.take (j + 1)) = dropF n (l.take j)) := Lib.hid (by rw [HT.out, if_pos he, List.append_nil])
        go_wp2_with fail
        go_roundg (gk - 1)
        case measure => omega
        case rel => exact ⟨j + 1, _, by go_num, by omega, by omega, by simp; omega, by rw [HZ.out]; exact Lib.hid (HRa.out _), Lib.hid (H0a.out _), Lib.hid (H1a.out _), Lib.hid (H2a.out _)⟩
      case false =>
        have hne : (!(x.toList == n.toList)) = true := by rw [he]; rfl
        have HZ : Hid (dropF n (l.take (j + 1)) = dropF n (l.take j) ++ [(x, y)]) := Lib.hid (by rw [HT.out, if_neg (by rw [he]; decide)])
        have f2a : ∀ O, (wr.alloc O).cell? ⟨w.heap.size + 1 + 1, 2, none⟩ = some (.slice va (dropF n (l.take j)).length vc) := fun O => (H2.out.alloc O).c2
        have hB : w.heap.size + 3 ≤ (wr.alloc (.cells #[.string x, .string y] 30)).heap.size := by simp; omega
        go_wp2_with (at_builtin; refine field_pushB (HRa.out _) (by omega) hB rfl _ _ rfl rfl (x, y) _ _ _ rfl (by simp) rfl ?hl ?_)
        case hl => omega
        intro v3 w3 hR3 hg3
        have hne2 : ∀ b, b < w.heap.size + 3 → some b ≠ (Value.slice va (dropF n (l.take j)).length vc).ownBlock := fun b hb e => by have := (HR.out.lt b e.symm).1; omega
        have H0b := Lib.hid (((H0a.out _).alloc _).grown hg3 (hne2 _ (by omega)))
        have H1b := Lib.hid (((H1a.out _).alloc _).grown hg3 (hne2 _ (by omega)))
        have H2b := Lib.hid (((H2a.out _).alloc _).grown hg3 (hne2 _ (by omega)))
        have hsz3 : w.heap.size + 3 ≤ w3.heap.size := by have := hg3.size; simp at this; omega
        obtain ⟨va3, vc3, rfl, -, -⟩ := hR3.slice
        have HR3 : Hid (RowB (w.heap.size + 3) w w3 (.slice va3 ((dropF n (l.take j)).length + 1) vc3) (dropF n (l.take j) ++ [(x, y)])) := Lib.hid (by have h := hR3; rw [List.length_append] at h; exact h)
        have z2 := H2b.out.c2
        have z3 := H2b.out.f 2 (by omega)
        clear hR3 hg3 hne2 HRa H0a H1a H2a
        go_wp2_with fail
        go_roundg (gk - 1)
        case measure => omega
        case rel => exact ⟨j + 1, _, by go_num, by omega, by omega, by simpa [World.setCell] using hsz3, by rw [HZ.out]; exact Lib.hid (HR3.out.set (b := w.heap.size + 1 + 1) (by omega) (by omega) _ _), Lib.hid (H0b.out.setOther (by omega) _), Lib.hid (H1b.out.setOther (by omega) _), Lib.hid (H2b.out.set2 _)⟩
end Go.Proofs.YtjjphpklifbipaaDoor.Ia
