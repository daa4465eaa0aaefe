/- The document's Switch of layer 13. No condition but bounds. -/
import Derived.Test.YtjpbpdjomfkkeaaGreatDoorMk1
import Derived.Test.YtjpbpdjomfkkeaaGreatDoorMc4
import Derived.Test.YtjpbpdjomfkkeaaGreatDoorMd4
import Derived.Deep.RegionHeld3
import Derived.Laws.AppendOwnNone
namespace Go.Proofs.YtjpbpdjomfkkeaaGreatDoor.Ma
set_option linter.unusedVariables false
set_option linter.unusedSimpArgs false
open Go.ChangeShapes Go.WideShapes Go.ChangeAt Go.RowKit
open Go.Proofs.YtjpbpdjomfkkeaaGreatDoor.Sp (bstep bbox Hp Th cellsT rowT)
/-- Texts appended to a row, as an equation on append's run. -/
theorem str_run {wb w : World} {v : Value} {l : List BA} (hO : RowS wb w v l) (ty : TypeId) (r : List BA) (c : Nat) {n : Nat} {ad : Option Addr} (hn : n = r.length) (hI : InS w ad r) (hl : l.length ≤ 1000000000) (hr : r.length ≤ 1000000000) (hnil : ad = none → n = 0 ∧ c = 0) :
    ∃ v' w', (Builtin.append_ #[22, 22] ty #[v, .slice ad n c]).run Tryz.prog w = .ok v' w' ∧ RowS wb w' v' (l ++ r) := by
  obtain ⟨i0, hi, hz0, hz1, hz2⟩ := info_parts iStr
  subst hn
  cases ad with
  | none =>
    obtain ⟨h0, rfl⟩ := hnil rfl
    obtain rfl : r = [] := List.length_eq_zero_iff.1 h0
    refine ⟨v, w, run_append_owned_none (P := Tryz.prog) (w := w) wb.heap.size 22 ty 9 i0 1 Tryz.underlying22 hi v l.length (cellsS l) hO.row, ?_⟩
    rw [List.append_nil]; exact hO
  | some ad =>
    have key : ∀ j u, (cellsS r)[j]? = some u → w.cell? (ad.add j) = some u := fun j u hj => by
      have hjr : j < r.length := by
        have h0 := (List.getElem?_eq_some_iff.1 hj).1
        rw [cellsS_len] at h0
        omega
      obtain ⟨b, p, e, hlt, hc⟩ := hI (by omega)
      obtain rfl := Option.some.inj e
      rw [Addr.add_lit, hc j hjr, ← hj]
      simp [cellsS, hjr]
    obtain ⟨v', w', hrun, h2, h3, -⟩ := run_append_own (P := Tryz.prog) (w := w) wb.heap.size 22 ty 9 i0 (.string ⟨#[]⟩) 1 16 Tryz.underlying22 hi hz0 hz1 hz2 rfl (by decide) v l.length (cellsS l) hO.row ad r.length c (cellsS r) (cellsS_len r) key
      (fun u hu => by obtain ⟨y, -, rfl⟩ := List.mem_map.1 hu; rfl) (by unfold maxLen; omega) (by omega) hO.bel.size
    refine ⟨v', w', hrun, ?_, hO.bel.grown h3 hO.bel.size (fun k hk => (hO.row.lt k hk).1)⟩
    rw [List.length_append, show cellsS (l ++ r) = cellsS l ++ cellsS r from List.map_append]
    exact h2
theorem str_step {wb w : World} {v : Value} {l : List BA} {ops : Array Oper} {o : Oper} {a : Act} {K : Act → World → Prop} {Q : Exit → Act → World → Prop} {E : Prop} (hgd : o.guard = none) (s x : Operand)
    (ho : o.op = .call { callee := .builtin .append, args := #[s, x], argTypes := #[22, 22] }) (hs : a.eval s = v) (hO : RowS wb w v l) (r : List BA) (c : Nat) {n : Nat} {ad : Option Addr} (hx : a.eval x = .slice ad n c) (hn : n = r.length)
    (hI : InS w ad r) (hl : l.length ≤ 1000000000) (hr : r.length ≤ 1000000000) (hnil : ad = none → n = 0 ∧ c = 0) (h : ∀ v' w', RowS wb w' v' (l ++ r) → K (a.put o.dst v') w') : if Region.wanted o (yielded ops a.tmps) = true then Oper.wp Tryz.prog o a w K Q else E := by
  obtain ⟨v', w', hrun, hR⟩ := str_run hO o.type r c hn hI hl hr hnil
  exact Sp.step_app hgd s x ho hs hx hrun (h v' w' hR)
theorem threeH (w : World) (l1 l2 l3 : List Value) (T1 T2 T3 : TypeId) :
    Hp w (((w.alloc (.cells l1.toArray T1)).alloc (.cells l2.toArray T2)).alloc (.cells l3.toArray T3)) [cellsT (w.heap.size + 1 + 1) l3, cellsT (w.heap.size + 1) l2, cellsT w.heap.size l1] := by
  have h := (((Hp.nil (Below.refl w.heap.size w)).cellsNew l1 T1).cellsNew l2 T2).cellsNew l3 T3
  simpa using h
set_option maxHeartbeats 32000000 in
set_option maxRecDepth 100000 in
theorem refSwitch_calls (w : World) (m n : Md) (a a' : Option Addr) (c c' : Nat) (hlc : m.ps.length ≤ c) (hz : a = none → c = 0) (hI : InS w a m.ps) (hl : m.ps.length ≤ 40000) (hlc' : n.ps.length ≤ c') (hz' : a' = none → c' = 0) (hI' : InS w a' n.ps) (hl' : n.ps.length ≤ 40000) (r : Md) (k : Int) (hr : switchM m n = (r, k)) :
    Calls Tryz.prog 8 #[mV m a c, mV n a' c'] w fun e w' => ∃ x cx, e = .returned (.tuple #[mV r x cx, .int .i64 k]) ∧ InS w' x r.ps ∧ Below w.heap.size w w' := by
  have HI := Lib.hid (fun W (hW : Below w.heap.size w W) => hI.bel hW)
  have HI' := Lib.hid (fun W (hW : Below w.heap.size w W) => hI'.bel hW)
  have HR := Lib.hid hr
  have HZ := Lib.hid hz
  have HZ' := Lib.hid hz'
  clear hr hI hI' hz hz'
  obtain ⟨on, bc, oi, oo, nl, rd, ps⟩ := m
  obtain ⟨on', bc', oi', oo', nl', rd', ps'⟩ := n
  unfold mV
  simp only at HI HI' HR hl hl' hlc hlc' ⊢
  cases on with
  | false =>
    have e := HR.out
    simp [switchM] at e
    obtain ⟨rfl, rfl⟩ := e
    clear HR
    have H3 := Lib.hid (threeH w [.bool false, .bool bc, .bool oi, .bool oo, .bool nl, .int .i64 rd, .slice a ps.length c] [.bool on', .bool bc', .bool oi', .bool oo', .bool nl', .int .i64 rd', .slice a' ps'.length c'] [.bool false, .bool false, .bool false, .bool false, .bool false, .int .i64 0, .slice none 0 0] 24 24 24)
    go_enter Tryz.func8, Tryz.ntmps8
    go_upto_region 1 with fail
    have H3 : Hid (Hp w (((w.alloc (.cells #[.bool false, .bool bc, .bool oi, .bool oo, .bool nl, .int .i64 rd, .slice a ps.length c] 24)).alloc (.cells #[.bool on', .bool bc', .bool oi', .bool oo', .bool nl', .int .i64 rd', .slice a' ps'.length c'] 24)).alloc (.cells #[.bool false, .bool false, .bool false, .bool false, .bool false, .int .i64 0, .slice none 0 0] 24)) [cellsT (w.heap.size + 1 + 1) [.bool false, .bool false, .bool false, .bool false, .bool false, .int .i64 0, .slice none 0 0], cellsT (w.heap.size + 1) [.bool on', .bool bc', .bool oi', .bool oo', .bool nl', .int .i64 rd', .slice a' ps'.length c'], cellsT w.heap.size [.bool false, .bool bc, .bool oi, .bool oo, .bool nl, .int .i64 rd, .slice a ps.length c]]) := H3
    generalize (((w.alloc (.cells #[.bool false, .bool bc, .bool oi, .bool oo, .bool nl, .int .i64 rd, .slice a ps.length c] 24)).alloc (.cells #[.bool on', .bool bc', .bool oi', .bool oo', .bool nl', .int .i64 rd', .slice a' ps'.length c'] 24)).alloc (.cells #[.bool false, .bool false, .bool false, .bool false, .bool false, .int .i64 0, .slice none 0 0] 24)) = w1 at *
    obtain ⟨b3, hb3⟩ : ∃ b, w.heap.size + 1 + 1 = b := ⟨_, rfl⟩
    obtain ⟨b2, hb2⟩ : ∃ b, w.heap.size + 1 = b := ⟨_, rfl⟩
    obtain ⟨b1, hb1⟩ : ∃ b, w.heap.size = b := ⟨_, rfl⟩
    simp only [hb3] at H3 ⊢
    simp only [hb2] at H3 ⊢
    simp only [hb1] at H3 ⊢
    have HE := Lib.hid (And.intro hb1 (And.intro hb2 hb3))
    clear hb1 hb2 hb3
    have d0 := (H3.out.pull 0 rfl).cell 0 rfl
    have g0 := (H3.out.pull 0 rfl).free 0 rfl
    have d1 := (H3.out.pull 0 rfl).cell 1 rfl
    have g1 := (H3.out.pull 0 rfl).free 1 rfl
    have d2 := (H3.out.pull 0 rfl).cell 2 rfl
    have g2 := (H3.out.pull 0 rfl).free 2 rfl
    have d3 := (H3.out.pull 0 rfl).cell 3 rfl
    have g3 := (H3.out.pull 0 rfl).free 3 rfl
    have d4 := (H3.out.pull 0 rfl).cell 4 rfl
    have g4 := (H3.out.pull 0 rfl).free 4 rfl
    have d5 := (H3.out.pull 0 rfl).cell 5 rfl
    have g5 := (H3.out.pull 0 rfl).free 5 rfl
    have d6 := (H3.out.pull 0 rfl).cell 6 rfl
    have g6 := (H3.out.pull 0 rfl).free 6 rfl
    have y0 := (H3.out.pull 1 rfl).cell 0 rfl
    have y1 := (H3.out.pull 1 rfl).cell 1 rfl
    have y2 := (H3.out.pull 1 rfl).cell 2 rfl
    have y3 := (H3.out.pull 1 rfl).cell 3 rfl
    have y4 := (H3.out.pull 1 rfl).cell 4 rfl
    have y5 := (H3.out.pull 1 rfl).cell 5 rfl
    have y6 := (H3.out.pull 1 rfl).cell 6 rfl
    have x0 := (H3.out.pull 2 rfl).cell 0 rfl
    have x1 := (H3.out.pull 2 rfl).cell 1 rfl
    have x2 := (H3.out.pull 2 rfl).cell 2 rfl
    have x3 := (H3.out.pull 2 rfl).cell 3 rfl
    have x4 := (H3.out.pull 2 rfl).cell 4 rfl
    have x5 := (H3.out.pull 2 rfl).cell 5 rfl
    have x6 := (H3.out.pull 2 rfl).cell 6 rfl
    clear x1 x2 x3 x4 x5 x6
    go_wp2_with fail
    have HF := Lib.hid (sets7H (H3.out.pull 0 rfl) (.bool on') (.bool bc') (.bool oi') (.bool oo') (.bool nl') (.int .i64 rd') (.slice a' ps'.length c'))
    exact bodyPost_ret (v := .tuple #[.agg #[.bool on', .bool bc', .bool oi', .bool oo', .bool nl', .int .i64 rd', .slice a' ps'.length c'], .int .i64 0]) (by simp [results, Tryz.results8, go_sem, d0, d1, d2, d3, d4, d5, d6]) rfl (by first | exact ⟨_, _, rfl, (HI'.out _ HF.out.below), HF.out.below⟩ | exact ⟨_, ⟨_, rfl⟩, (HI'.out _ HF.out.below), HF.out.below⟩)
  | true =>
    cases on' with
    | false =>
      have e := HR.out
      simp [switchM] at e
      obtain ⟨rfl, rfl⟩ := e
      clear HR
      have H3 := Lib.hid (threeH w [.bool true, .bool bc, .bool oi, .bool oo, .bool nl, .int .i64 rd, .slice a ps.length c] [.bool false, .bool bc', .bool oi', .bool oo', .bool nl', .int .i64 rd', .slice a' ps'.length c'] [.bool false, .bool false, .bool false, .bool false, .bool false, .int .i64 0, .slice none 0 0] 24 24 24)
      go_enter Tryz.func8, Tryz.ntmps8
      go_upto_region 1 with fail
      have H3 : Hid (Hp w (((w.alloc (.cells #[.bool true, .bool bc, .bool oi, .bool oo, .bool nl, .int .i64 rd, .slice a ps.length c] 24)).alloc (.cells #[.bool false, .bool bc', .bool oi', .bool oo', .bool nl', .int .i64 rd', .slice a' ps'.length c'] 24)).alloc (.cells #[.bool false, .bool false, .bool false, .bool false, .bool false, .int .i64 0, .slice none 0 0] 24)) [cellsT (w.heap.size + 1 + 1) [.bool false, .bool false, .bool false, .bool false, .bool false, .int .i64 0, .slice none 0 0], cellsT (w.heap.size + 1) [.bool false, .bool bc', .bool oi', .bool oo', .bool nl', .int .i64 rd', .slice a' ps'.length c'], cellsT w.heap.size [.bool true, .bool bc, .bool oi, .bool oo, .bool nl, .int .i64 rd, .slice a ps.length c]]) := H3
      generalize (((w.alloc (.cells #[.bool true, .bool bc, .bool oi, .bool oo, .bool nl, .int .i64 rd, .slice a ps.length c] 24)).alloc (.cells #[.bool false, .bool bc', .bool oi', .bool oo', .bool nl', .int .i64 rd', .slice a' ps'.length c'] 24)).alloc (.cells #[.bool false, .bool false, .bool false, .bool false, .bool false, .int .i64 0, .slice none 0 0] 24)) = w1 at *
      obtain ⟨b3, hb3⟩ : ∃ b, w.heap.size + 1 + 1 = b := ⟨_, rfl⟩
      obtain ⟨b2, hb2⟩ : ∃ b, w.heap.size + 1 = b := ⟨_, rfl⟩
      obtain ⟨b1, hb1⟩ : ∃ b, w.heap.size = b := ⟨_, rfl⟩
      simp only [hb3] at H3 ⊢
      simp only [hb2] at H3 ⊢
      simp only [hb1] at H3 ⊢
      have HE := Lib.hid (And.intro hb1 (And.intro hb2 hb3))
      clear hb1 hb2 hb3
      have d0 := (H3.out.pull 0 rfl).cell 0 rfl
      have g0 := (H3.out.pull 0 rfl).free 0 rfl
      have d1 := (H3.out.pull 0 rfl).cell 1 rfl
      have g1 := (H3.out.pull 0 rfl).free 1 rfl
      have d2 := (H3.out.pull 0 rfl).cell 2 rfl
      have g2 := (H3.out.pull 0 rfl).free 2 rfl
      have d3 := (H3.out.pull 0 rfl).cell 3 rfl
      have g3 := (H3.out.pull 0 rfl).free 3 rfl
      have d4 := (H3.out.pull 0 rfl).cell 4 rfl
      have g4 := (H3.out.pull 0 rfl).free 4 rfl
      have d5 := (H3.out.pull 0 rfl).cell 5 rfl
      have g5 := (H3.out.pull 0 rfl).free 5 rfl
      have d6 := (H3.out.pull 0 rfl).cell 6 rfl
      have g6 := (H3.out.pull 0 rfl).free 6 rfl
      have y0 := (H3.out.pull 1 rfl).cell 0 rfl
      have y1 := (H3.out.pull 1 rfl).cell 1 rfl
      have y2 := (H3.out.pull 1 rfl).cell 2 rfl
      have y3 := (H3.out.pull 1 rfl).cell 3 rfl
      have y4 := (H3.out.pull 1 rfl).cell 4 rfl
      have y5 := (H3.out.pull 1 rfl).cell 5 rfl
      have y6 := (H3.out.pull 1 rfl).cell 6 rfl
      have x0 := (H3.out.pull 2 rfl).cell 0 rfl
      have x1 := (H3.out.pull 2 rfl).cell 1 rfl
      have x2 := (H3.out.pull 2 rfl).cell 2 rfl
      have x3 := (H3.out.pull 2 rfl).cell 3 rfl
      have x4 := (H3.out.pull 2 rfl).cell 4 rfl
      have x5 := (H3.out.pull 2 rfl).cell 5 rfl
      have x6 := (H3.out.pull 2 rfl).cell 6 rfl
      clear x1 x2 x3 x4 x5 x6
      go_wp2_with fail
      have HF := Lib.hid (sets7H (H3.out.pull 0 rfl) (.bool false) (.bool bc') (.bool oi') (.bool oo') (.bool nl') (.int .i64 rd') (.slice a' ps'.length c'))
      exact bodyPost_ret (v := .tuple #[.agg #[.bool false, .bool bc', .bool oi', .bool oo', .bool nl', .int .i64 rd', .slice a' ps'.length c'], .int .i64 0]) (by simp [results, Tryz.results8, go_sem, d0, d1, d2, d3, d4, d5, d6]) rfl (by first | exact ⟨_, _, rfl, (HI'.out _ HF.out.below), HF.out.below⟩ | exact ⟨_, ⟨_, rfl⟩, (HI'.out _ HF.out.below), HF.out.below⟩)
    | true =>
      by_cases h0 : bc = bc'
      case neg =>
        have h0c : (bc == bc') = false := beq_eq_false_iff_ne.2 h0
        have h0n : (!(bc == bc')) = true := by rw [h0c]; rfl
        have e := HR.out
        simp [switchM, h0, h0c] at e
        obtain ⟨rfl, rfl⟩ := e
        clear HR
        have H3 := Lib.hid (threeH w [.bool true, .bool bc, .bool oi, .bool oo, .bool nl, .int .i64 rd, .slice a ps.length c] [.bool true, .bool bc', .bool oi', .bool oo', .bool nl', .int .i64 rd', .slice a' ps'.length c'] [.bool false, .bool false, .bool false, .bool false, .bool false, .int .i64 0, .slice none 0 0] 24 24 24)
        go_enter Tryz.func8, Tryz.ntmps8
        go_upto_region 1 with fail
        have H3 : Hid (Hp w (((w.alloc (.cells #[.bool true, .bool bc, .bool oi, .bool oo, .bool nl, .int .i64 rd, .slice a ps.length c] 24)).alloc (.cells #[.bool true, .bool bc', .bool oi', .bool oo', .bool nl', .int .i64 rd', .slice a' ps'.length c'] 24)).alloc (.cells #[.bool false, .bool false, .bool false, .bool false, .bool false, .int .i64 0, .slice none 0 0] 24)) [cellsT (w.heap.size + 1 + 1) [.bool false, .bool false, .bool false, .bool false, .bool false, .int .i64 0, .slice none 0 0], cellsT (w.heap.size + 1) [.bool true, .bool bc', .bool oi', .bool oo', .bool nl', .int .i64 rd', .slice a' ps'.length c'], cellsT w.heap.size [.bool true, .bool bc, .bool oi, .bool oo, .bool nl, .int .i64 rd, .slice a ps.length c]]) := H3
        generalize (((w.alloc (.cells #[.bool true, .bool bc, .bool oi, .bool oo, .bool nl, .int .i64 rd, .slice a ps.length c] 24)).alloc (.cells #[.bool true, .bool bc', .bool oi', .bool oo', .bool nl', .int .i64 rd', .slice a' ps'.length c'] 24)).alloc (.cells #[.bool false, .bool false, .bool false, .bool false, .bool false, .int .i64 0, .slice none 0 0] 24)) = w1 at *
        obtain ⟨b3, hb3⟩ : ∃ b, w.heap.size + 1 + 1 = b := ⟨_, rfl⟩
        obtain ⟨b2, hb2⟩ : ∃ b, w.heap.size + 1 = b := ⟨_, rfl⟩
        obtain ⟨b1, hb1⟩ : ∃ b, w.heap.size = b := ⟨_, rfl⟩
        simp only [hb3] at H3 ⊢
        simp only [hb2] at H3 ⊢
        simp only [hb1] at H3 ⊢
        have HE := Lib.hid (And.intro hb1 (And.intro hb2 hb3))
        clear hb1 hb2 hb3
        have d0 := (H3.out.pull 0 rfl).cell 0 rfl
        have g0 := (H3.out.pull 0 rfl).free 0 rfl
        have d1 := (H3.out.pull 0 rfl).cell 1 rfl
        have g1 := (H3.out.pull 0 rfl).free 1 rfl
        have d2 := (H3.out.pull 0 rfl).cell 2 rfl
        have g2 := (H3.out.pull 0 rfl).free 2 rfl
        have d3 := (H3.out.pull 0 rfl).cell 3 rfl
        have g3 := (H3.out.pull 0 rfl).free 3 rfl
        have d4 := (H3.out.pull 0 rfl).cell 4 rfl
        have g4 := (H3.out.pull 0 rfl).free 4 rfl
        have d5 := (H3.out.pull 0 rfl).cell 5 rfl
        have g5 := (H3.out.pull 0 rfl).free 5 rfl
        have d6 := (H3.out.pull 0 rfl).cell 6 rfl
        have g6 := (H3.out.pull 0 rfl).free 6 rfl
        have x0 := (H3.out.pull 2 rfl).cell 0 rfl
        have x1 := (H3.out.pull 2 rfl).cell 1 rfl
        have x2 := (H3.out.pull 2 rfl).cell 2 rfl
        have x3 := (H3.out.pull 2 rfl).cell 3 rfl
        have x4 := (H3.out.pull 2 rfl).cell 4 rfl
        have x5 := (H3.out.pull 2 rfl).cell 5 rfl
        have x6 := (H3.out.pull 2 rfl).cell 6 rfl
        have y0 := (H3.out.pull 1 rfl).cell 0 rfl
        have y1 := (H3.out.pull 1 rfl).cell 1 rfl
        have y2 := (H3.out.pull 1 rfl).cell 2 rfl
        have y3 := (H3.out.pull 1 rfl).cell 3 rfl
        have y4 := (H3.out.pull 1 rfl).cell 4 rfl
        have y5 := (H3.out.pull 1 rfl).cell 5 rfl
        have y6 := (H3.out.pull 1 rfl).cell 6 rfl
        clear y2 y3 y4 y5 y6
        go_wp2_with fail
        have HF := Lib.hid (sets7H (H3.out.pull 0 rfl) (.bool true) (.bool bc) (.bool oi) (.bool oo) (.bool nl) (.int .i64 rd) (.slice a ps.length c))
        exact bodyPost_ret (v := .tuple #[.agg #[.bool true, .bool bc, .bool oi, .bool oo, .bool nl, .int .i64 rd, .slice a ps.length c], .int .i64 132]) (by simp [results, Tryz.results8, go_sem, d0, d1, d2, d3, d4, d5, d6]) rfl (by first | exact ⟨_, _, rfl, (HI.out _ HF.out.below), HF.out.below⟩ | exact ⟨_, ⟨_, rfl⟩, (HI.out _ HF.out.below), HF.out.below⟩)
      subst h0
      by_cases h1 : oi = oi'
      case neg =>
        have h1c : (oi == oi') = false := beq_eq_false_iff_ne.2 h1
        have h1n : (!(oi == oi')) = true := by rw [h1c]; rfl
        have e := HR.out
        simp [switchM, h1, h1c] at e
        obtain ⟨rfl, rfl⟩ := e
        clear HR
        have H3 := Lib.hid (threeH w [.bool true, .bool bc, .bool oi, .bool oo, .bool nl, .int .i64 rd, .slice a ps.length c] [.bool true, .bool bc, .bool oi', .bool oo', .bool nl', .int .i64 rd', .slice a' ps'.length c'] [.bool false, .bool false, .bool false, .bool false, .bool false, .int .i64 0, .slice none 0 0] 24 24 24)
        go_enter Tryz.func8, Tryz.ntmps8
        go_upto_region 1 with fail
        have H3 : Hid (Hp w (((w.alloc (.cells #[.bool true, .bool bc, .bool oi, .bool oo, .bool nl, .int .i64 rd, .slice a ps.length c] 24)).alloc (.cells #[.bool true, .bool bc, .bool oi', .bool oo', .bool nl', .int .i64 rd', .slice a' ps'.length c'] 24)).alloc (.cells #[.bool false, .bool false, .bool false, .bool false, .bool false, .int .i64 0, .slice none 0 0] 24)) [cellsT (w.heap.size + 1 + 1) [.bool false, .bool false, .bool false, .bool false, .bool false, .int .i64 0, .slice none 0 0], cellsT (w.heap.size + 1) [.bool true, .bool bc, .bool oi', .bool oo', .bool nl', .int .i64 rd', .slice a' ps'.length c'], cellsT w.heap.size [.bool true, .bool bc, .bool oi, .bool oo, .bool nl, .int .i64 rd, .slice a ps.length c]]) := H3
        generalize (((w.alloc (.cells #[.bool true, .bool bc, .bool oi, .bool oo, .bool nl, .int .i64 rd, .slice a ps.length c] 24)).alloc (.cells #[.bool true, .bool bc, .bool oi', .bool oo', .bool nl', .int .i64 rd', .slice a' ps'.length c'] 24)).alloc (.cells #[.bool false, .bool false, .bool false, .bool false, .bool false, .int .i64 0, .slice none 0 0] 24)) = w1 at *
        obtain ⟨b3, hb3⟩ : ∃ b, w.heap.size + 1 + 1 = b := ⟨_, rfl⟩
        obtain ⟨b2, hb2⟩ : ∃ b, w.heap.size + 1 = b := ⟨_, rfl⟩
        obtain ⟨b1, hb1⟩ : ∃ b, w.heap.size = b := ⟨_, rfl⟩
        simp only [hb3] at H3 ⊢
        simp only [hb2] at H3 ⊢
        simp only [hb1] at H3 ⊢
        have HE := Lib.hid (And.intro hb1 (And.intro hb2 hb3))
        clear hb1 hb2 hb3
        have d0 := (H3.out.pull 0 rfl).cell 0 rfl
        have g0 := (H3.out.pull 0 rfl).free 0 rfl
        have d1 := (H3.out.pull 0 rfl).cell 1 rfl
        have g1 := (H3.out.pull 0 rfl).free 1 rfl
        have d2 := (H3.out.pull 0 rfl).cell 2 rfl
        have g2 := (H3.out.pull 0 rfl).free 2 rfl
        have d3 := (H3.out.pull 0 rfl).cell 3 rfl
        have g3 := (H3.out.pull 0 rfl).free 3 rfl
        have d4 := (H3.out.pull 0 rfl).cell 4 rfl
        have g4 := (H3.out.pull 0 rfl).free 4 rfl
        have d5 := (H3.out.pull 0 rfl).cell 5 rfl
        have g5 := (H3.out.pull 0 rfl).free 5 rfl
        have d6 := (H3.out.pull 0 rfl).cell 6 rfl
        have g6 := (H3.out.pull 0 rfl).free 6 rfl
        have x0 := (H3.out.pull 2 rfl).cell 0 rfl
        have x1 := (H3.out.pull 2 rfl).cell 1 rfl
        have x2 := (H3.out.pull 2 rfl).cell 2 rfl
        have x3 := (H3.out.pull 2 rfl).cell 3 rfl
        have x4 := (H3.out.pull 2 rfl).cell 4 rfl
        have x5 := (H3.out.pull 2 rfl).cell 5 rfl
        have x6 := (H3.out.pull 2 rfl).cell 6 rfl
        have y0 := (H3.out.pull 1 rfl).cell 0 rfl
        have y1 := (H3.out.pull 1 rfl).cell 1 rfl
        have y2 := (H3.out.pull 1 rfl).cell 2 rfl
        have y3 := (H3.out.pull 1 rfl).cell 3 rfl
        have y4 := (H3.out.pull 1 rfl).cell 4 rfl
        have y5 := (H3.out.pull 1 rfl).cell 5 rfl
        have y6 := (H3.out.pull 1 rfl).cell 6 rfl
        clear y3 y4 y5 y6
        go_wp2_with fail
        have HF := Lib.hid (sets7H (H3.out.pull 0 rfl) (.bool true) (.bool bc) (.bool oi) (.bool oo) (.bool nl) (.int .i64 rd) (.slice a ps.length c))
        exact bodyPost_ret (v := .tuple #[.agg #[.bool true, .bool bc, .bool oi, .bool oo, .bool nl, .int .i64 rd, .slice a ps.length c], .int .i64 132]) (by simp [results, Tryz.results8, go_sem, d0, d1, d2, d3, d4, d5, d6]) rfl (by first | exact ⟨_, _, rfl, (HI.out _ HF.out.below), HF.out.below⟩ | exact ⟨_, ⟨_, rfl⟩, (HI.out _ HF.out.below), HF.out.below⟩)
      subst h1
      by_cases h2 : oo = oo'
      case neg =>
        have h2c : (oo == oo') = false := beq_eq_false_iff_ne.2 h2
        have h2n : (!(oo == oo')) = true := by rw [h2c]; rfl
        have e := HR.out
        simp [switchM, h2, h2c] at e
        obtain ⟨rfl, rfl⟩ := e
        clear HR
        have H3 := Lib.hid (threeH w [.bool true, .bool bc, .bool oi, .bool oo, .bool nl, .int .i64 rd, .slice a ps.length c] [.bool true, .bool bc, .bool oi, .bool oo', .bool nl', .int .i64 rd', .slice a' ps'.length c'] [.bool false, .bool false, .bool false, .bool false, .bool false, .int .i64 0, .slice none 0 0] 24 24 24)
        go_enter Tryz.func8, Tryz.ntmps8
        go_upto_region 1 with fail
        have H3 : Hid (Hp w (((w.alloc (.cells #[.bool true, .bool bc, .bool oi, .bool oo, .bool nl, .int .i64 rd, .slice a ps.length c] 24)).alloc (.cells #[.bool true, .bool bc, .bool oi, .bool oo', .bool nl', .int .i64 rd', .slice a' ps'.length c'] 24)).alloc (.cells #[.bool false, .bool false, .bool false, .bool false, .bool false, .int .i64 0, .slice none 0 0] 24)) [cellsT (w.heap.size + 1 + 1) [.bool false, .bool false, .bool false, .bool false, .bool false, .int .i64 0, .slice none 0 0], cellsT (w.heap.size + 1) [.bool true, .bool bc, .bool oi, .bool oo', .bool nl', .int .i64 rd', .slice a' ps'.length c'], cellsT w.heap.size [.bool true, .bool bc, .bool oi, .bool oo, .bool nl, .int .i64 rd, .slice a ps.length c]]) := H3
        generalize (((w.alloc (.cells #[.bool true, .bool bc, .bool oi, .bool oo, .bool nl, .int .i64 rd, .slice a ps.length c] 24)).alloc (.cells #[.bool true, .bool bc, .bool oi, .bool oo', .bool nl', .int .i64 rd', .slice a' ps'.length c'] 24)).alloc (.cells #[.bool false, .bool false, .bool false, .bool false, .bool false, .int .i64 0, .slice none 0 0] 24)) = w1 at *
        obtain ⟨b3, hb3⟩ : ∃ b, w.heap.size + 1 + 1 = b := ⟨_, rfl⟩
        obtain ⟨b2, hb2⟩ : ∃ b, w.heap.size + 1 = b := ⟨_, rfl⟩
        obtain ⟨b1, hb1⟩ : ∃ b, w.heap.size = b := ⟨_, rfl⟩
        simp only [hb3] at H3 ⊢
        simp only [hb2] at H3 ⊢
        simp only [hb1] at H3 ⊢
        have HE := Lib.hid (And.intro hb1 (And.intro hb2 hb3))
        clear hb1 hb2 hb3
        have d0 := (H3.out.pull 0 rfl).cell 0 rfl
        have g0 := (H3.out.pull 0 rfl).free 0 rfl
        have d1 := (H3.out.pull 0 rfl).cell 1 rfl
        have g1 := (H3.out.pull 0 rfl).free 1 rfl
        have d2 := (H3.out.pull 0 rfl).cell 2 rfl
        have g2 := (H3.out.pull 0 rfl).free 2 rfl
        have d3 := (H3.out.pull 0 rfl).cell 3 rfl
        have g3 := (H3.out.pull 0 rfl).free 3 rfl
        have d4 := (H3.out.pull 0 rfl).cell 4 rfl
        have g4 := (H3.out.pull 0 rfl).free 4 rfl
        have d5 := (H3.out.pull 0 rfl).cell 5 rfl
        have g5 := (H3.out.pull 0 rfl).free 5 rfl
        have d6 := (H3.out.pull 0 rfl).cell 6 rfl
        have g6 := (H3.out.pull 0 rfl).free 6 rfl
        have x0 := (H3.out.pull 2 rfl).cell 0 rfl
        have x1 := (H3.out.pull 2 rfl).cell 1 rfl
        have x2 := (H3.out.pull 2 rfl).cell 2 rfl
        have x3 := (H3.out.pull 2 rfl).cell 3 rfl
        have x4 := (H3.out.pull 2 rfl).cell 4 rfl
        have x5 := (H3.out.pull 2 rfl).cell 5 rfl
        have x6 := (H3.out.pull 2 rfl).cell 6 rfl
        have y0 := (H3.out.pull 1 rfl).cell 0 rfl
        have y1 := (H3.out.pull 1 rfl).cell 1 rfl
        have y2 := (H3.out.pull 1 rfl).cell 2 rfl
        have y3 := (H3.out.pull 1 rfl).cell 3 rfl
        have y4 := (H3.out.pull 1 rfl).cell 4 rfl
        have y5 := (H3.out.pull 1 rfl).cell 5 rfl
        have y6 := (H3.out.pull 1 rfl).cell 6 rfl
        clear y4 y5 y6
        go_wp2_with fail
        have HF := Lib.hid (sets7H (H3.out.pull 0 rfl) (.bool true) (.bool bc) (.bool oi) (.bool oo) (.bool nl) (.int .i64 rd) (.slice a ps.length c))
        exact bodyPost_ret (v := .tuple #[.agg #[.bool true, .bool bc, .bool oi, .bool oo, .bool nl, .int .i64 rd, .slice a ps.length c], .int .i64 132]) (by simp [results, Tryz.results8, go_sem, d0, d1, d2, d3, d4, d5, d6]) rfl (by first | exact ⟨_, _, rfl, (HI.out _ HF.out.below), HF.out.below⟩ | exact ⟨_, ⟨_, rfl⟩, (HI.out _ HF.out.below), HF.out.below⟩)
      subst h2
      have HP : Hid (switchM ⟨true, bc, oi, oo, nl, rd, ps⟩ ⟨true, bc, oi, oo, nl', rd', ps'⟩ = (if rightB ⟨true, bc, oi, oo, nl', rd', cmp (srt (ps ++ ps'))⟩ then (⟨true, bc, oi, oo, nl', rd', cmp (srt (ps ++ ps'))⟩, 0) else (⟨true, bc, oi, oo, nl, rd, ps⟩, 132))) := Lib.hid (by simp [switchM])
      rw [HP.out] at HR
      clear HP
      obtain ⟨P, hP⟩ : ∃ P, ps ++ ps' = P := ⟨_, rfl⟩
      have HPe := Lib.hid hP
      have HPl : Hid (P.length ≤ 80000) := Lib.hid (by rw [← hP, List.length_append]; omega)
      rw [hP] at HR
      clear hP
      have HSl : Hid ((srt P).length ≤ 100000) := Lib.hid (by rw [srt_len]; have := HPl.out; omega)
      have H3 := Lib.hid (threeH w [.bool true, .bool bc, .bool oi, .bool oo, .bool nl, .int .i64 rd, .slice a ps.length c] [.bool true, .bool bc, .bool oi, .bool oo, .bool nl', .int .i64 rd', .slice a' ps'.length c'] [.bool false, .bool false, .bool false, .bool false, .bool false, .int .i64 0, .slice none 0 0] 24 24 24)
      go_enter Tryz.func8, Tryz.ntmps8
      go_upto_region 1 with fail
      have H3 : Hid (Hp w (((w.alloc (.cells #[.bool true, .bool bc, .bool oi, .bool oo, .bool nl, .int .i64 rd, .slice a ps.length c] 24)).alloc (.cells #[.bool true, .bool bc, .bool oi, .bool oo, .bool nl', .int .i64 rd', .slice a' ps'.length c'] 24)).alloc (.cells #[.bool false, .bool false, .bool false, .bool false, .bool false, .int .i64 0, .slice none 0 0] 24)) [cellsT (w.heap.size + 1 + 1) [.bool false, .bool false, .bool false, .bool false, .bool false, .int .i64 0, .slice none 0 0], cellsT (w.heap.size + 1) [.bool true, .bool bc, .bool oi, .bool oo, .bool nl', .int .i64 rd', .slice a' ps'.length c'], cellsT w.heap.size [.bool true, .bool bc, .bool oi, .bool oo, .bool nl, .int .i64 rd, .slice a ps.length c]]) := H3
      generalize (((w.alloc (.cells #[.bool true, .bool bc, .bool oi, .bool oo, .bool nl, .int .i64 rd, .slice a ps.length c] 24)).alloc (.cells #[.bool true, .bool bc, .bool oi, .bool oo, .bool nl', .int .i64 rd', .slice a' ps'.length c'] 24)).alloc (.cells #[.bool false, .bool false, .bool false, .bool false, .bool false, .int .i64 0, .slice none 0 0] 24)) = w1 at *
      obtain ⟨b3, hb3⟩ : ∃ b, w.heap.size + 1 + 1 = b := ⟨_, rfl⟩
      obtain ⟨b2, hb2⟩ : ∃ b, w.heap.size + 1 = b := ⟨_, rfl⟩
      obtain ⟨b1, hb1⟩ : ∃ b, w.heap.size = b := ⟨_, rfl⟩
      simp only [hb3] at H3 ⊢
      simp only [hb2] at H3 ⊢
      simp only [hb1] at H3 ⊢
      have HE := Lib.hid (And.intro hb1 (And.intro hb2 hb3))
      clear hb1 hb2 hb3
      have x0 := (H3.out.pull 2 rfl).cell 0 rfl
      have x1 := (H3.out.pull 2 rfl).cell 1 rfl
      have x2 := (H3.out.pull 2 rfl).cell 2 rfl
      have x3 := (H3.out.pull 2 rfl).cell 3 rfl
      have x4 := (H3.out.pull 2 rfl).cell 4 rfl
      have x5 := (H3.out.pull 2 rfl).cell 5 rfl
      have x6 := (H3.out.pull 2 rfl).cell 6 rfl
      have y0 := (H3.out.pull 1 rfl).cell 0 rfl
      have y1 := (H3.out.pull 1 rfl).cell 1 rfl
      have y2 := (H3.out.pull 1 rfl).cell 2 rfl
      have y3 := (H3.out.pull 1 rfl).cell 3 rfl
      have y4 := (H3.out.pull 1 rfl).cell 4 rfl
      have y5 := (H3.out.pull 1 rfl).cell 5 rfl
      have y6 := (H3.out.pull 1 rfl).cell 6 rfl
      go_upto_region 5 with fail
      clear x0 x1 x2 x3 x4 x5 x6
      have H4 := H3.out.cellsNew [.bool true, .bool bc, .bool oi, .bool oo, .bool nl', .int .i64 rd', .slice none 0 0] 24
      have H5 : Hid (Hp w (w1.alloc (.cells #[.bool true, .bool bc, .bool oi, .bool oo, .bool nl', .int .i64 rd', .slice none 0 0] 24)) [cellsT w1.heap.size [.bool true, .bool bc, .bool oi, .bool oo, .bool nl', .int .i64 rd', .slice none 0 0], cellsT b3 [.bool false, .bool false, .bool false, .bool false, .bool false, .int .i64 0, .slice none 0 0], cellsT b2 [.bool true, .bool bc, .bool oi, .bool oo, .bool nl', .int .i64 rd', .slice a' ps'.length c'], cellsT b1 [.bool true, .bool bc, .bool oi, .bool oo, .bool nl, .int .i64 rd, .slice a ps.length c]]) := Lib.hid H4
      clear H4 H3
      go_upto_region 7 with fail
      clear y0 y1 y2 y3 y4 y5 y6
      generalize (w1.alloc (.cells #[.bool true, .bool bc, .bool oi, .bool oo, .bool nl', .int .i64 rd', .slice none 0 0] 24)) = w5 at *
      generalize w1.heap.size = b6 at *
      have HS : Hid (∀ W, Below w5.heap.size w5 W → W.cell? ⟨b1, 6, none⟩ = some (.slice a ps.length c) ∧ W.cell? ⟨b2, 6, none⟩ = some (.slice a' ps'.length c')) := Lib.hid (fun W hW => ⟨((H5.out.bel hW).pull 3 rfl).cell 6 rfl, ((H5.out.bel hW).pull 2 rfl).cell 6 rfl⟩)
      have HI2 := Lib.hid (fun W hW => HI.out W (bstep H5.out.below hW))
      have HI2' := Lib.hid (fun W hW => HI'.out W (bstep H5.out.below hW))
      have HN := Lib.hid (fun e : a = none => (show ps.length = 0 ∧ c = 0 from ⟨by have := HZ.out e; omega, HZ.out e⟩))
      have HN' := Lib.hid (fun e : a' = none => (show ps'.length = 0 ∧ c' = 0 from ⟨by have := HZ'.out e; omega, HZ'.out e⟩))
      have HM0 := Lib.hid (rowS_made w5)
      have HSo : Hid (∀ W a7 c7, InS W a7 P → Calls Tryz.prog 22 #[.slice a7 P.length c7] W fun e w' => ∃ a8 c8, e = .returned (.slice a8 (srt P).length c8) ∧ RowS W w' (.slice a8 (srt P).length c8) (srt P)) := Lib.hid (fun W a7 c7 hI7 => (sorted_calls W a7 c7 _ P rfl hI7 (by have := HPl.out; omega)).mono fun e w' ⟨v, h1, h2⟩ => by
        obtain ⟨a8, c8, rfl, -, -, -, -⟩ := h2.slice
        exact ⟨a8, c8, h1, h2⟩)
      have HB0 := Lib.hid (Below.refl w5.heap.size w5)
      go_region_held3 (fun W : World => W.cell? ⟨b1, 6, none⟩ = some (.slice a ps.length c) ∧ W.cell? ⟨b2, 6, none⟩ = some (.slice a' ps'.length c'))
        (first | exact HS.out _ HB0.out | exact HS.out _ HB0.out.drew | exact HS.out _ HM0.out.bel | exact HS.out _ HM0.out.bel.drew | exact HS.out _ hR6.bel | exact HS.out _ hR6.bel.drew | exact HS.out _ hR7.bel | exact HS.out _ hR7.bel.drew | exact HS.out _ (hR8.over hR7.bel).bel | exact HS.out _ (hR8.over hR7.bel.drew).bel | exact HS.out _ (hR8.over hR7.bel).bel.drew | exact HS.out _ (hR8.over hR7.bel.drew).bel.drew)
        (first
          | (refine str_step (v := .slice (some ⟨w5.heap.size, 0, none⟩) 0 0) (wb := w5) (l := []) (o := ⟨some 44, _, _, _, _, _⟩) rfl (.tmp 41) (.tmp 43) rfl ?_ ?_ ps c (ad := a) (n := ps.length) ?_ rfl ?_ (by simp) (by omega) HN.out ?_
             · first | rfl | simp [Act.eval]
             · first | exact HM0.out | exact HM0.out.below ((Below.refl _ _).drew)
             · first | rfl | simp [Act.eval]
             · first | exact HI2.out _ HM0.out.bel | exact HI2.out _ HM0.out.bel.drew
             intro v6 w6 hR6)
          | (refine str_step (v := v6) (wb := w5) (l := [] ++ ps) (o := ⟨some 47, _, _, _, _, _⟩) rfl (.tmp 44) (.tmp 46) rfl ?_ ?_ ps' c' (ad := a') (n := ps'.length) ?_ rfl ?_ (by simp; omega) (by omega) HN'.out ?_
             · first | rfl | simp [Act.eval]
             · first | exact hR6 | exact hR6.below ((Below.refl _ _).drew)
             · first | rfl | simp [Act.eval]
             · first | exact HI2'.out _ hR6.bel | exact HI2'.out _ hR6.bel.drew
             intro v7 w7 hR7
             rw [List.nil_append, HPe.out] at hR7
             obtain ⟨a7, c7, rfl, -, -, -, hI7⟩ := hR7.slice)
          | (go_at_call 22; refine (HSo.out _ a7 c7 (by first | exact hI7 | exact hI7.bel ((Below.refl _ _).drew))).mono ?_; rintro e w8 ⟨a8, c8, rfl, hR8⟩))
      have hR9 := hR8.over hR7.bel
      have hH8 := H5.out.rowAdd hR9.bel hR9.row (Nat.le_refl _)
      have hH9 := ((hH8.dropAt 3 rfl).rowNil 9 1)
      clear HS HI2 HI2' HN HN' HM0 HSo HB0 hR6 hR7 hI7 hR8 hR9 hH8 H5
      generalize srt P = S at *
      have H9 : Hid (Hp w w8 [rowST (.slice none 0 0) (cmp (S.take 0)), rowST (.slice a8 S.length c8) S, cellsT b6 ([.bool true, .bool bc, .bool oi, .bool oo, .bool nl', .int .i64 rd', .slice none 0 0]), cellsT b3 [.bool false, .bool false, .bool false, .bool false, .bool false, .int .i64 0, .slice none 0 0], cellsT b1 [.bool true, .bool bc, .bool oi, .bool oo, .bool nl, .int .i64 rd, .slice a ps.length c]]) := Lib.hid hH9
      clear hH9
      go_wp2_with fail
      go_loopg [8, 9, 50] (S.length + 1) (fun g _ _ s50 wr => ∃ (j : Nat) (aj : Option Addr) (nj cj : Nat), s50 = .int .i64 j ∧ j ≤ S.length ∧ S.length - j ≤ g ∧ Hid (Hp w wr [rowST (.slice aj nj cj) (cmp (S.take j)), rowST (.slice a8 S.length c8) S, cellsT b6 ([.bool true, .bool bc, .bool oi, .bool oo, .bool nl', .int .i64 rd', .slice aj nj cj]), cellsT b3 [.bool false, .bool false, .bool false, .bool false, .bool false, .int .i64 0, .slice none 0 0], cellsT b1 [.bool true, .bool bc, .bool oi, .bool oo, .bool nl, .int .i64 rd, .slice a ps.length c]]))
      case atStart => exact ⟨0, none, 0, 0, rfl, by omega, by omega, H9⟩
      case round =>
        obtain ⟨j, aj, nj, cj, rfl, hj, hg, HL⟩ := hrel
        clear H9
        obtain ⟨ax, cx, e, hLc, hcb, hgj⟩ := HL.out.rowForm
        injection e with e1 e2 e3
        subst e1 e2 e3
        by_cases hjl : j < S.length
        case pos =>
          have hjc : (j : Int) < (S.length : Int) := by omega
          obtain ⟨ay, cy, e, hc8, -, hg8⟩ := (HL.out.pull 1 rfl).rowForm
          injection e with e1 e2 e3
          subst e1 e3
          obtain ⟨g8, rfl⟩ := hg8 (by omega)
          have c0 : wr.cell? ⟨g8, j, none⟩ = some (.string S[j]) := ((HL.out.pull 1 rfl).rowCell (by omega)).trans (by simp [cellsS, hjl])
          have HT := Lib.hid (cmp_take hjl)
          have HLl : Hid ((cmp (S.take j)).length ≤ 100000) := Lib.hid (by have h1 := cmp_len (S.take j); have h2 := List.length_take_le j S; have := HSl.out; omega)
          clear hg8 e2
          generalize cmp (S.take j) = L at *
          generalize S[j] = p at *
          have hSl := HSl.out
          have x6 := (HL.out.pull 2 rfl).cell 6 rfl
          by_cases hL0 : L = []
          case pos =>
            subst hL0
            have x6 : wr.cell? ⟨b6, 6, none⟩ = some (.slice aj 0 cj) := x6
            have hz0 : (((0 : Nat) : Int) == 0) = true := rfl
            have hz1 : ((0 : Nat) : Int) = 0 := rfl
            have HT : Hid (cmp (S.take (j + 1)) = [] ++ [p]) := Lib.hid (by rw [HT.out]; simp [cmpF])
            go_wp2_with (at_builtin; refine pushH HL.out (bbox _) rfl _ _ rfl rfl p _ rfl (by rw [World.cell?_alloc_new]; rfl) (by have := HLl.out; omega) ?_)
            intro v5 w5 hR
            obtain ⟨a5, c5, rfl, -, -, -⟩ := hR.rowForm
            have z6 := (hR.pull 2 rfl).cell 6 rfl
            have f6 := (hR.pull 2 rfl).free 6 rfl
            have H6 := Lib.hid (((hR.pull 2 rfl).cellSet 6 (.slice a5 ([] ++ [p] : List BA).length c5) rfl).push 2)
            clear hR x6
            go_wp2_with fail
            go_roundg (gk - 1)
            case measure => omega
            case rel => exact ⟨j + 1, a5, _, c5, by go_num, by omega, by omega, by rw [HT.out]; exact H6⟩
          case neg =>
            obtain ⟨k1, hk1⟩ : ∃ k1, L.length = k1 + 1 := ⟨L.length - 1, by have := List.length_pos_iff.2 hL0; omega⟩
            clear hL0
            obtain ⟨gj, rfl⟩ := hgj (by omega)
            have hkL : k1 < L.length := by omega
            have d0 : wr.cell? ⟨gj, k1, none⟩ = some (.string L[k1]) := (HL.out.rowCell (by omega)).trans (by simp [cellsS, hkL])
            have hla : L.getLast? = some L[k1] := by rw [List.getLast?_eq_getElem?, hk1]; simp [hkL]
            have HLa := Lib.hid hla
            have hk2 : k1 ≤ 100000 := by have := HLl.out; omega
            obtain ⟨n1, hn1⟩ : ∃ n, L.length = n := ⟨_, rfl⟩
            rw [hn1] at x6
            have hn2 : (n1 : Int) - 1 = (k1 : Int) := by omega
            have hn3 : IntKind.i64.wrap ((n1 : Int) - 1) = (k1 : Int) := by rw [hn2, IntKind.wrap_i64]; omega
            have hz1 : ((n1 : Int) == 0) = false := beq_eq_false_iff_ne.2 (by omega)
            have hz2 : ¬ ((n1 : Int) = 0) := by omega
            have hz3 : (k1 : Int) < (n1 : Int) := by omega
            have HKl : Hid (L.length = n1) := Lib.hid hn1
            clear hla
            by_cases he : L[k1] = p
            · have HT : Hid (cmp (S.take (j + 1)) = L) := Lib.hid (by rw [HT.out]; simp [cmpF, HLa.out, he])
              rw [he] at d0
              clear HLa
              have hqq : (p.toList == p.toList) = true := beq_self_eq_true _
              clear hk1 he hn1
              go_wp2_with fail
              go_roundg (gk - 1)
              case measure => omega
              case rel => exact ⟨j + 1, _, _, _, by go_num, by omega, by omega, by rw [HT.out]; exact HL⟩
            · have HT : Hid (cmp (S.take (j + 1)) = L ++ [p]) := Lib.hid (by rw [HT.out]; simp [cmpF, HLa.out, he])
              have hqq : (L[k1].toList == p.toList) = false := beq_eq_false_iff_ne.2 fun e => he (Ia.ba_eq e)
              clear HLa he
              generalize L[k1] = q at *
              have hqn : (!(q.toList == p.toList)) = true := by rw [hqq]; rfl
              clear hk1 hn1
              go_wp2_with (at_builtin; refine pushH HL.out (bbox _) rfl _ _ rfl (by first | rfl | (rw [HKl.out]; rfl)) p _ rfl (by rw [World.cell?_alloc_new]; rfl) (by have := HLl.out; omega) ?_)
              intro v5 w5 hR
              obtain ⟨a5, c5, rfl, -, -, -⟩ := hR.rowForm
              rw [show (L ++ [p]).length = L.length + 1 from by simp] at hR
              have z6 := (hR.pull 2 rfl).cell 6 rfl
              have f6 := (hR.pull 2 rfl).free 6 rfl
              have H6 := Lib.hid (((hR.pull 2 rfl).cellSet 6 (.slice a5 (L.length + 1) c5) rfl).push 2)
              clear hR x6
              go_wp2_with fail
              go_roundg (gk - 1)
              case measure => omega
              case rel => exact ⟨j + 1, a5, _, c5, by go_num, by omega, by omega, by rw [HT.out]; exact H6⟩
        case neg =>
          have hjc : ¬ (j : Int) < (S.length : Int) := by omega
          obtain rfl : j = S.length := by omega
          rw [List.take_length] at HL hLc
          have HLl : Hid ((cmp S).length ≤ 1000000) := Lib.hid (by have h1 := cmp_len S; have := HSl.out; omega)
          generalize cmp S = L at *
          have HRi := Lib.hid (rightB_iff ⟨true, bc, oi, oo, nl', rd', L⟩)
          generalize rightB ⟨true, bc, oi, oo, nl', rd', L⟩ = rb at *
          have HRt := Lib.hid (refRight_calls wr ⟨true, bc, oi, oo, nl', rd', L⟩ aj cj (by obtain ⟨x, y, e, -, -, -, hi⟩ := (rowS_of' HL.out).slice; cases e; exact hi) hLc HLl.out rb HRi.out)
          unfold mV at HRt
          simp only at HRt
          have bb0 := (HL.out.pull 2 rfl).cell 0 rfl
          have bb1 := (HL.out.pull 2 rfl).cell 1 rfl
          have bb2 := (HL.out.pull 2 rfl).cell 2 rfl
          have bb3 := (HL.out.pull 2 rfl).cell 3 rfl
          have bb4 := (HL.out.pull 2 rfl).cell 4 rfl
          have bb5 := (HL.out.pull 2 rfl).cell 5 rfl
          have bb6 := (HL.out.pull 2 rfl).cell 6 rfl
          go_wp2_with fail
          refine HRt.out.mono ?_
          rintro e w9 ⟨rfl, hb⟩
          have HE := Lib.hid (HL.out.bel hb)
          clear hb HL HRt HRi bb0 bb1 bb2 bb3 bb4 bb5 bb6
          cases rb with
          | false =>
            have e := HR.out
            simp at e
            obtain ⟨rfl, rfl⟩ := e
            clear HR
            have d0 := (HE.out.pull 3 rfl).cell 0 rfl
            have g0 := (HE.out.pull 3 rfl).free 0 rfl
            have d1 := (HE.out.pull 3 rfl).cell 1 rfl
            have g1 := (HE.out.pull 3 rfl).free 1 rfl
            have d2 := (HE.out.pull 3 rfl).cell 2 rfl
            have g2 := (HE.out.pull 3 rfl).free 2 rfl
            have d3 := (HE.out.pull 3 rfl).cell 3 rfl
            have g3 := (HE.out.pull 3 rfl).free 3 rfl
            have d4 := (HE.out.pull 3 rfl).cell 4 rfl
            have g4 := (HE.out.pull 3 rfl).free 4 rfl
            have d5 := (HE.out.pull 3 rfl).cell 5 rfl
            have g5 := (HE.out.pull 3 rfl).free 5 rfl
            have d6 := (HE.out.pull 3 rfl).cell 6 rfl
            have g6 := (HE.out.pull 3 rfl).free 6 rfl
            have x0 := (HE.out.pull 4 rfl).cell 0 rfl
            have x1 := (HE.out.pull 4 rfl).cell 1 rfl
            have x2 := (HE.out.pull 4 rfl).cell 2 rfl
            have x3 := (HE.out.pull 4 rfl).cell 3 rfl
            have x4 := (HE.out.pull 4 rfl).cell 4 rfl
            have x5 := (HE.out.pull 4 rfl).cell 5 rfl
            have x6 := (HE.out.pull 4 rfl).cell 6 rfl
            go_wp2_with fail
            have HF := Lib.hid (sets7H (HE.out.pull 3 rfl) (.bool true) (.bool bc) (.bool oi) (.bool oo) (.bool nl) (.int .i64 rd) (.slice a ps.length c))
            exact bodyPost_ret (v := .tuple #[.agg #[.bool true, .bool bc, .bool oi, .bool oo, .bool nl, .int .i64 rd, .slice a ps.length c], .int .i64 132]) (by simp [results, Tryz.results8, go_sem, d0, d1, d2, d3, d4, d5, d6]) rfl (by first | exact ⟨_, _, rfl, (HI.out _ HF.out.below), HF.out.below⟩ | exact ⟨_, ⟨_, rfl⟩, (HI.out _ HF.out.below), HF.out.below⟩)
          | true =>
            have e := HR.out
            simp at e
            obtain ⟨rfl, rfl⟩ := e
            clear HR
            have d0 := (HE.out.pull 3 rfl).cell 0 rfl
            have g0 := (HE.out.pull 3 rfl).free 0 rfl
            have d1 := (HE.out.pull 3 rfl).cell 1 rfl
            have g1 := (HE.out.pull 3 rfl).free 1 rfl
            have d2 := (HE.out.pull 3 rfl).cell 2 rfl
            have g2 := (HE.out.pull 3 rfl).free 2 rfl
            have d3 := (HE.out.pull 3 rfl).cell 3 rfl
            have g3 := (HE.out.pull 3 rfl).free 3 rfl
            have d4 := (HE.out.pull 3 rfl).cell 4 rfl
            have g4 := (HE.out.pull 3 rfl).free 4 rfl
            have d5 := (HE.out.pull 3 rfl).cell 5 rfl
            have g5 := (HE.out.pull 3 rfl).free 5 rfl
            have d6 := (HE.out.pull 3 rfl).cell 6 rfl
            have g6 := (HE.out.pull 3 rfl).free 6 rfl
            have x0 := (HE.out.pull 2 rfl).cell 0 rfl
            have x1 := (HE.out.pull 2 rfl).cell 1 rfl
            have x2 := (HE.out.pull 2 rfl).cell 2 rfl
            have x3 := (HE.out.pull 2 rfl).cell 3 rfl
            have x4 := (HE.out.pull 2 rfl).cell 4 rfl
            have x5 := (HE.out.pull 2 rfl).cell 5 rfl
            have x6 := (HE.out.pull 2 rfl).cell 6 rfl
            go_wp2_with fail
            have HF := Lib.hid (sets7H (HE.out.pull 3 rfl) (.bool true) (.bool bc) (.bool oi) (.bool oo) (.bool nl') (.int .i64 rd') (.slice aj L.length cj))
            exact bodyPost_ret (v := .tuple #[.agg #[.bool true, .bool bc, .bool oi, .bool oo, .bool nl', .int .i64 rd', .slice aj L.length cj], .int .i64 0]) (by simp [results, Tryz.results8, go_sem, d0, d1, d2, d3, d4, d5, d6]) rfl (by first | exact ⟨_, _, rfl, (by obtain ⟨x, y, e, -, -, -, hi⟩ := (rowS_of' (HF.out.pull 1 rfl)).slice; cases e; exact hi), HF.out.below⟩ | exact ⟨_, ⟨_, rfl⟩, (by obtain ⟨x, y, e, -, -, -, hi⟩ := (rowS_of' (HF.out.pull 1 rfl)).slice; cases e; exact hi), HF.out.below⟩)
end Go.Proofs.YtjpbpdjomfkkeaaGreatDoor.Ma
