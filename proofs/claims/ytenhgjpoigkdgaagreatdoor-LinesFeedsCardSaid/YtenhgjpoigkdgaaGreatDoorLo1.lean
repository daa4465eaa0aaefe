/- Package lines' objects: New, Feed at a new one, Next at one command, Left; the statements' alive call. Conditions: what start-up lays ('PCtx'); the variable MaxLen holds some int. -/
import Derived.Test.YtenhgjpoigkdgaaGreatDoorLz5
namespace Go.Proofs.YtenhgjpoigkdgaaGreatDoor.Ln
open Go.ChangeShapes Go.WideShapes Go.ChangeAt Go.RowKit

set_option maxHeartbeats 1000000 in
theorem new_calls (w : World) : Calls Tryz.prog 8 #[] w fun e w' => e = .returned (.pointer (some ⟨w.heap.size, 0, none⟩)) ∧ w' = w.alloc (.cells #[.slice none 0 0, .bool false] 50) := by
  go_enter Tryz.func8, Tryz.ntmps8
  go_wp2
  go_ret
  exact ⟨rfl, rfl⟩
set_option maxHeartbeats 1000000 in
theorem left_calls (L : Nat) (a : Option Addr) (n c : Nat) (w : World) (h0 : w.cell? ⟨L, 0, none⟩ = some (.slice a n c)) : Calls Tryz.prog 11 #[.pointer (some ⟨L, 0, none⟩)] w fun e w' => e = .returned (.int .i64 (n : Nat)) ∧ w = w' := by
  go_enter Tryz.func11, Tryz.ntmps11
  go_wp2
  go_ret
  exact ⟨rfl, rfl⟩
set_option maxHeartbeats 1000000 in
theorem drop_all (L : Nat) (a : Option Addr) (n c : Nat) (w : World) (h0 : w.cell? ⟨L, 0, none⟩ = some (.slice a n c)) (h1 : w.cell? ⟨L, 1, none⟩ = some (.bool false)) (f0 : w.frozen? ⟨L, 0, none⟩ = false) :
    Calls Tryz.prog 19 #[.pointer (some ⟨L, 0, none⟩), .int .i64 (n : Nat)] w fun e w' => e = .returned (.tuple #[]) ∧ w' = w.setCell ⟨L, 0, none⟩ (.slice none 0 0) := by
  go_enter Tryz.func19, Tryz.ntmps19
  go_wp2
  (try simp only [Exit.inBlock, Exit.then])
  exact bodyPost_ret (results_none rfl _ _ _) rfl ⟨rfl, rfl⟩
theorem addr_ne {b c i j : Nat} (h : b ≠ c ∨ i ≠ j) : (⟨b, i, none⟩ : Addr) ≠ ⟨c, j, none⟩ := by
  intro e
  injection e with e1 e2
  rcases h with h | h
  · exact h e1
  · exact h e2
/-- The texts l lie in v, in memory behind block B. -/
def Lie (B : Nat) (w : World) (v : Value) (l : List (List UInt8)) : Prop := w.ownsRow B 9 1 v l.length (cellsS l)
theorem Lie.of {wb w : World} {v : Value} {l : List (List UInt8)} (h : Strs wb w v l) : Lie wb.heap.size w v l := by
  have := h.row
  rw [cellsS_len] at this
  exact this
theorem Lie.facts {B : Nat} {w : World} {v : Value} {l : List (List UInt8)} (h : Lie B w v l) :
    ∃ a c, v = .slice a l.length c ∧ l.length ≤ c ∧ c ≤ 9223372036854775807 ∧ ∀ i (hi : i < l.length), ∃ g, a = some ⟨g, 0, none⟩ ∧ w.cell? ⟨g, i, none⟩ = some (.string ⟨l[i].toArray⟩) := by
  rcases h.2 with ⟨rfl, hn⟩ | ⟨g, cap, cur, rfl, hg, hh, h1, h2, h3, h4⟩
  · exact ⟨none, 0, by rw [hn], by omega, by omega, fun i hi => absurd hi (by omega)⟩
  · refine ⟨some ⟨g, 0, none⟩, cap, rfl, h1, by unfold maxLen at h2; omega, fun i hi => ⟨g, rfl, ?_⟩⟩
    have e1 : (cur.toList.take (l.length * 1))[i]? = cur.toList[i]? := List.getElem?_take_of_lt (by omega)
    rw [h4] at e1
    simp only [World.cell?, hh]
    have e2 : (cellsS l)[i]? = some (.string ⟨l[i].toArray⟩) := by simp [cellsS, hi]
    rw [e2] at e1
    simpa using e1.symm
theorem buf_more {wb w : World} {v : Value} {l : List UInt8} {ops : Array Oper} {rest : List Oper} {o : Oper} {a : Act} {Q : Exit → Act → World → Prop} (hO : BufB wb w v l) (hgd : o.guard = none) (s x : Operand)
    (ho : o.op = .call { callee := .builtin .append, args := #[s, x], argTypes := #[22, 22] }) (hs : a.eval s = v) (bs : List UInt8) (ad : Addr) (m c : Nat)
    (hx : a.eval x = .slice (some ad) m c) (hm : m = bs.length) (hnews : ∀ j u, (cellsB bs)[j]? = some u → w.cell? (ad.add j) = some u) (hl : l.length + bs.length ≤ 100000000000)
    (h : ∀ v' w', BufB wb w' v' (l ++ bs) → wpList Tryz.prog ops Q rest (a.put o.dst v') w') : wpList Tryz.prog ops Q (o :: rest) a w := by
  obtain ⟨i0, hi, hz0, hz1, hz2⟩ := info_parts i5
  subst hm
  have e1 : (cellsB l).length = l.length := cellsB_len l
  have e2 : (cellsB bs).length = bs.length := cellsB_len bs
  have hr0 := hO.row
  rw [e1] at hr0
  refine wpList_append_own _ hgd s x 22 ho wb.heap.size 5 i0 (.int .u8 0) 1 1 Tryz.underlying22 hi hz0 hz1 hz2 rfl (by decide) v l.length (cellsB l) hs hr0 ad bs.length c (cellsB bs) hx (by omega) hnews (cellsB_one bs) (by unfold maxLen; omega) (by omega) hO.size ?_
  intro v' w' hr hg _
  refine h v' w' (hO.grown ?_ hg)
  rw [cellsB_len, List.length_append, cellsB_app]
  exact hr
theorem InB.news {w : World} {a : Option Addr} {c : Nat} {l : List UInt8} (h : InB w a c l) (hl : 0 < l.length) : ∃ ad, a = some ad ∧ ∀ j u, (cellsB l)[j]? = some u → w.cell? (ad.add j) = some u := by
  obtain ⟨g, o, e, hc⟩ := h.cell hl
  refine ⟨_, e, fun j u hj => ?_⟩
  have hjl : j < l.length := by
    have := (List.getElem?_eq_some_iff.1 hj).1
    rwa [cellsB_len] at this
  rw [Addr.add_lit, hc j hjl, ← hj]
  simp [cellsB, Lib.byteCells, hjl]
set_option maxHeartbeats 4000000 in
theorem feed_new (L : Nat) (w : World) (h0 : w.cell? ⟨L, 0, none⟩ = some (.slice none 0 0)) (h1 : w.cell? ⟨L, 1, none⟩ = some (.bool false)) (f0 : w.frozen? ⟨L, 0, none⟩ = false) (a : Option Addr) (c : Nat) (l : List UInt8) (hB : InB w a c l) (hl : 0 < l.length) (hm : l.length ≤ 1000000) :
    Calls Tryz.prog 9 #[.pointer (some ⟨L, 0, none⟩), .slice a l.length c] w fun e w' => e = .returned (.tuple #[]) ∧ ∃ w2 v, BufB w w2 v l ∧ w' = w2.setCell ⟨L, 0, none⟩ v := by
  obtain ⟨ad, rfl, hnews⟩ := hB.news hl
  have HN := Lib.hid hnews
  have hLs : L < w.heap.size := World.block_lt_of_cell? w _ h0
  clear hnews hB
  go_enter Tryz.func9, Tryz.ntmps9
  go_wp2_with (at_builtin; refine buf_more (show BufB w w (.slice none 0 0) [] from Row.nil w) rfl _ _ rfl rfl l ad _ _ rfl rfl HN.out ?hl1 ?_)
  case hl1 => rw [List.length_nil]; omega
  intro v2 w2 hB2
  have HB2 := Lib.hid hB2
  have g0 : w2.cell? ⟨L, 0, none⟩ = some (.slice none 0 0) := (hB2.bel.cell (p := ⟨L, 0, none⟩) hLs).trans h0
  have gf : w2.frozen? ⟨L, 0, none⟩ = false := (hB2.bel.frozen (p := ⟨L, 0, none⟩) hLs).trans f0
  obtain ⟨a2, c2, rfl, -, -⟩ := hB2.slice
  clear hB2
  go_wp2_with fail
  go_end0
  exact ⟨rfl, w2, _, HB2.out, rfl⟩
/-- What Next leaves where it read one command, all that was there. -/
def NextOne (L : Nat) (ws : List (List UInt8)) (w : World) (e : Ending) (w' : World) : Prop := ∃ v, e = .returned (.tuple #[v, .bool true, .int .i64 0]) ∧ Lie w.heap.size w' v ws ∧ Below L w w' ∧ w'.cell? ⟨L, 0, none⟩ = some (.slice none 0 0) ∧ w'.cell? ⟨L, 1, none⟩ = some (.bool false)
set_option maxHeartbeats 8000000 in
set_option maxRecDepth 1000000 in
theorem next_one (L : Nat) (w : World) (l : List UInt8) (a : Option Addr) (c : Nat) (h0 : w.cell? ⟨L, 0, none⟩ = some (.slice a l.length c)) (h1 : w.cell? ⟨L, 1, none⟩ = some (.bool false)) (f0 : w.frozen? ⟨L, 0, none⟩ = false) (f1 : w.frozen? ⟨L, 1, none⟩ = false)
    (hm : l.length ≤ 1000000) (hnil : a = none → c = 0) (hc : PCtx w) (hmx : MaxOk w) (hB : InB w a c l) (ws : List (List UInt8)) (hp : Lw.parseR l = .got ws l.length) (hws : 0 < ws.length) :
    Calls Tryz.prog 10 #[.pointer (some ⟨L, 0, none⟩)] w (NextOne L ws w) := by
  have hP := parse_calls l hm a c hnil w hc hmx hB
  rw [hp] at hP
  have HP := Lib.hid hP
  have hLs : L < w.heap.size := World.block_lt_of_cell? w _ h0
  have hg := Lw.parseR_got hp
  have hu0 : (0 : Int) < (l.length : Int) := by omega
  have HD := Lib.hid (fun w2 g0 g1 gf => drop_all L a l.length c w2 g0 g1 gf)
  clear hP hp hc hmx hB hnil hg
  go_enter Tryz.func10, Tryz.ntmps10
  go_wp2_with fail
  refine wp_loop_rounds 1 ?_
  rw [rounds_succ]
  go_wp2_with fail
  refine HP.out.mono ?_; rintro en w2 ⟨hb2, hans⟩
  rcases hans with ⟨h, -⟩ | ⟨h, -⟩ | ⟨ws2, u, v, h, rfl, hS⟩
  · cases h
  · cases h
  injection h with e1 e2
  subst e1 e2
  have g0 : w2.cell? ⟨L, 0, none⟩ = some (.slice a l.length c) := (hb2.cell (p := ⟨L, 0, none⟩) hLs).trans h0
  have g1 : w2.cell? ⟨L, 1, none⟩ = some (.bool false) := (hb2.cell (p := ⟨L, 1, none⟩) hLs).trans h1
  have gf0 : w2.frozen? ⟨L, 0, none⟩ = false := (hb2.frozen (p := ⟨L, 0, none⟩) hLs).trans f0
  have gf1 : w2.frozen? ⟨L, 1, none⟩ = false := (hb2.frozen (p := ⟨L, 1, none⟩) hLs).trans f1
  have Hb2 := Lib.hid hb2
  have HS := Lib.hid hS
  obtain ⟨av, cv, rfl, -, -⟩ := hS.slice
  rw [cellsS_len] at *
  clear hb2 hS
  go_wp2_with fail
  have k0 : (w2.setCell ⟨L, 1, none⟩ (.bool false)).cell? ⟨L, 0, none⟩ = some (.slice a l.length c) := (World.cell?_setCell_other _ _ _ _ (addr_ne (.inr (by show (1 : Nat) ≠ 0; decide)))).trans g0
  have k1 : (w2.setCell ⟨L, 1, none⟩ (.bool false)).cell? ⟨L, 1, none⟩ = some (.bool false) := World.cell?_setCell_same w2 _ _ g1
  have kf : (w2.setCell ⟨L, 1, none⟩ (.bool false)).frozen? ⟨L, 0, none⟩ = false := by rw [World.frozen?_setCell]; exact gf0
  have hlt2 := Hb2.out.size
  have HS3 : Hid (Lie w.heap.size (w2.setCell ⟨L, 1, none⟩ (.bool false)) (.slice av ws.length cv) ws ∧ Below L w (w2.setCell ⟨L, 1, none⟩ (.bool false))) := Lib.hid ⟨ownsRow_setCell_below (Lie.of HS.out) (a := ⟨L, 1, none⟩) hLs _, (Hb2.out.mono (Nat.le_of_lt hLs)).trans (Below.setCell (p := ⟨L, 1, none⟩) (Below.refl L w2) (Nat.le_refl _) _)⟩
  generalize w2.setCell ⟨L, 1, none⟩ (.bool false) = W3 at *
  refine (HD.out _ k0 k1 kf).mono ?_; rintro en w4 ⟨rfl, rfl⟩
  have j0 : (W3.setCell ⟨L, 0, none⟩ (.slice none 0 0)).cell? ⟨L, 0, none⟩ = some (.slice none 0 0) := World.cell?_setCell_same W3 _ _ k0
  have j1 : (W3.setCell ⟨L, 0, none⟩ (.slice none 0 0)).cell? ⟨L, 1, none⟩ = some (.bool false) := (World.cell?_setCell_other _ _ _ _ (addr_ne (.inr (by show (0 : Nat) ≠ 1; decide)))).trans k1
  clear k0 k1 kf g0 g1 gf0 gf1
  have HS4 : Hid (Lie w.heap.size (W3.setCell ⟨L, 0, none⟩ (.slice none 0 0)) (.slice av ws.length cv) ws ∧ Below L w (W3.setCell ⟨L, 0, none⟩ (.slice none 0 0))) := Lib.hid ⟨ownsRow_setCell_below HS3.out.1 (a := ⟨L, 0, none⟩) hLs _, HS3.out.2.trans (Below.setCell (p := ⟨L, 0, none⟩) (Below.refl L W3) (Nat.le_refl _) _)⟩
  generalize W3.setCell ⟨L, 0, none⟩ (.slice none 0 0) = W4 at *
  have hws0 : (0 : Int) < (ws.length : Int) := by omega
  go_wp2_with fail
  go_ret3
  have e : decide (0 < l.length) = true := decide_eq_true (by omega)
  refine ⟨.slice av ws.length cv, ?_, HS4.out.1, HS4.out.2, j0, j1⟩
  show Ending.returned (.tuple #[.slice av ws.length cv, .bool (decide (0 < l.length)), .int .i64 0]) = _
  rw [e]
end Go.Proofs.YtenhgjpoigkdgaaGreatDoor.Ln
