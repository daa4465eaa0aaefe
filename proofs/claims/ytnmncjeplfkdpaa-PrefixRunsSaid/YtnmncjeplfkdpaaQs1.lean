/- The document's Sorted of layer 13, over texts as they lie alone. No condition but bounds. -/
import Derived.Test.YtnmncjeplfkdpaaMaA
import Derived.ArgAppend
namespace Go.Proofs.Ytnmncjeplfkdpaa.Ma
set_option linter.unusedVariables false
set_option linter.unusedSimpArgs false
open Go.ChangeShapes Go.WideShapes Go.ChangeAt Go.RowKit
open Go.Proofs.Ytnmncjeplfkdpaa.Sp (bstep bbox)
structure CellL (w : World) (b : Nat) (vs : List Value) : Prop where
  lt : b < w.heap.size
  c : ∀ i (h : i < vs.length), w.cell? ⟨b, i, none⟩ = some vs[i]
  f : ∀ i, i < vs.length → w.frozen? ⟨b, i, none⟩ = false
theorem CellL.below {W w : World} {b : Nat} {vs : List Value} (h : CellL W b vs) (hb : Below W.heap.size W w) : CellL w b vs :=
  ⟨Nat.lt_of_lt_of_le h.lt hb.size, fun i hi => (hb.cell (p := ⟨b, i, none⟩) h.lt).trans (h.c i hi), fun i hi => (hb.frozen (p := ⟨b, i, none⟩) h.lt).trans (h.f i hi)⟩
theorem CellL.alloc {W : World} {b : Nat} {vs : List Value} (h : CellL W b vs) (o : Obj) : CellL (W.alloc o) b vs := h.below (bbox o)
theorem CellL.new (w : World) (vs : List Value) (T : TypeId) : CellL (w.alloc (.cells vs.toArray T)) w.heap.size vs := by
  refine ⟨by simp, fun i hi => ?_, fun i hi => ?_⟩
  · rw [World.cell?_alloc_new]; simp [hi]
  · go_simp
theorem CellL.new2 (w : World) (b : Nat) (hb : w.heap.size = b) (vs : List Value) (T : TypeId) : CellL (w.alloc (.cells vs.toArray T)) b vs := by subst hb; exact CellL.new w vs T
theorem CellL.at {w : World} {b : Nat} {vs : List Value} (h : CellL w b vs) (i : Nat) {v : Value} (hv : vs[i]? = some v) : w.cell? ⟨b, i, none⟩ = some v := by
  obtain ⟨hi, e⟩ := List.getElem?_eq_some_iff.1 hv
  rw [h.c i hi, e]
theorem RowS.some' {wb w : World} {v : Value} {l : List BA} (h : RowS wb w v l) (hp : 0 < l.length) : ∃ g c, v = .slice (some ⟨g, 0, none⟩) l.length c := by
  rcases h.row.2 with ⟨rfl, hn⟩ | ⟨g, cap, cur, rfl, -⟩
  · omega
  · exact ⟨g, cap, rfl⟩
theorem RowS.form {wb w : World} {g n c : Nat} {l : List BA} (h : RowS wb w (.slice (some ⟨g, 0, none⟩) n c) l) : n = l.length ∧ l.length ≤ c ∧ c ≤ 9223372036854775807 ∧ ∀ i (hi : i < l.length), w.cell? ⟨g, i, none⟩ = some (.string l[i]) := by
  obtain ⟨a, c', e, h1, h2, -, h4⟩ := h.slice
  injection e with e1 e2 e3
  subst e1 e3
  refine ⟨e2, h1, h2, fun i hi => ?_⟩
  obtain ⟨b, o, e, -, hc⟩ := h4 (by omega)
  injection e with e
  injection e with e1 e2
  subst e1 e2
  have := hc i hi
  rwa [Nat.zero_add] at this
/-- One text appended to the first n of a row, with no room behind them. -/
theorem view_push {w : World} {ops : Array Oper} {rest : List Oper} {o : Oper} {a : Act} {Q : Exit → Act → World → Prop} (hgd : o.guard = none) (s x : Operand)
    (ho : o.op = .call { callee := .builtin .append, args := #[s, x], argTypes := #[44, 44] }) {g n : Nat} (L : List BA) (hs : a.eval s = .slice (some ⟨g, 0, none⟩) n n) (hL : n ≤ L.length) (hl : L.length ≤ 1000000)
    (hc : ∀ j (hj : j < L.length), w.cell? ⟨g, j, none⟩ = some (.string L[j])) (y : BA) {b c : Nat} (hx : a.eval x = .slice (some ⟨b, 0, none⟩) 1 c) (hy : w.cell? ⟨b, 0, none⟩ = some (.string y))
    (K : ∀ v' w', RowS w w' v' (L.take n ++ [y]) → wpList Try.prog ops Q rest (a.put o.dst v') w') : wpList Try.prog ops Q (o :: rest) a w := by
  obtain ⟨i0, hi, hz0, hz1, hz2⟩ := info_parts iStr
  refine wpList_append_grows w hgd s x 44 ho 9 i0 (.string ⟨#[]⟩) 1 16 Try.underlying44 hi hz0 hz1 hz2 rfl (by decide) (some ⟨g, 0, none⟩) n n (cellsS (L.take n)) hs (fun h => by cases h) (by rw [cellsS_len, List.length_take]; omega)
    (fun b' e j u hj => ?_) ⟨b, 0, none⟩ 1 c [.string y] hx rfl (fun j u hj => ?_) (fun u hu => ?_) (by omega) (by unfold maxLen; omega) (by omega) fun v' w' h1 h2 => K v' w' ⟨?_, ?_⟩
  · obtain rfl := Option.some.inj e
    rw [Addr.add_lit, Nat.zero_add]
    have hjn : j < (L.take n).length := by
      have h0 := (List.getElem?_eq_some_iff.1 hj).1
      rwa [cellsS_len, Nat.mul_one] at h0
    have hjn' := hjn
    rw [List.length_take] at hjn'
    rw [hc j (by omega), ← hj]
    simp [cellsS, show j < n by omega, show j < L.length by omega]
  · match j, hj with
    | 0, hj => obtain rfl := Option.some.inj hj; rw [Addr.add_lit]; exact hy
  · simp only [List.mem_cons, List.not_mem_nil, or_false] at hu
    rcases hu with rfl; rfl
  · have e : (L.take n ++ [y]).length = n + 1 := by simp; omega
    rw [e, show cellsS (L.take n ++ [y]) = cellsS (L.take n) ++ [.string y] from List.map_append]
    exact h1
  · exact ⟨h2.os, h2.tape, h2.output, h2.size, fun k hk => h2.block k hk (by simp)⟩
theorem le_or (x s : BA) : (Op.bytesLess x.toList s.toList || x.toList == s.toList) = !(Op.bytesLess s.toList x.toList) := by
  cases h : Op.bytesLess s.toList x.toList with
  | true =>
    have h1 : Op.bytesLess x.toList s.toList = false := Ia.lt_asymm (a := s) (b := x) h
    have h2 : (x.toList == s.toList) = false := by
      have := Ia.lt_ne (a := s) (b := x) h
      rw [beq_eq_false_iff_ne] at this ⊢
      exact fun e => this e.symm
    rw [h1, h2]; rfl
  | false =>
    cases h1 : Op.bytesLess x.toList s.toList with
    | true => rfl
    | false =>
      have := Ia.lt_total (a := s) (b := x) h h1
      subst this
      simp
set_option maxHeartbeats 16000000 in
set_option maxRecDepth 100000 in
theorem sorted_calls (w : World) (a : Option Addr) (c n : Nat) (l : List BA) (hn : n = l.length) (hI : InS w a l) (hl : l.length ≤ 100000) :
    Calls Try.prog 35 #[.slice a n c] w fun e w' => ∃ v, e = .returned v ∧ RowS w w' v (srt l) := by
  subst hn
  have HI := Lib.hid hI
  clear hI
  have h1 := rowS_made w
  have H1 : Hid (RowS w (w.alloc (.cells #[] 9)) (.slice (some ⟨w.heap.size, 0, none⟩) 0 0) (srt (l.take 0))) := Lib.hid h1
  clear h1
  go_enter Try.func35, Try.ntmps35
  go_wp2_with fail
  go_loopg [3, 5, 6, 7, 11] (l.length + 1) (fun gg s3 _ _ _ s11 wr => ∃ j g n' c' : Nat, s11 = .int .i64 j ∧ j ≤ l.length ∧ l.length - j ≤ gg ∧ s3 = .slice (some ⟨g, 0, none⟩) n' c' ∧ Hid (RowS w wr (.slice (some ⟨g, 0, none⟩) n' c') (srt (l.take j))))
  case atStart => exact ⟨0, _, _, _, rfl, by omega, by omega, rfl, H1⟩
  case round =>
    obtain ⟨j, g, n', c', rfl, hj, hg, rfl, HR⟩ := hrel
    obtain ⟨gO, hgO⟩ : ∃ g, gk = g := ⟨_, rfl⟩
    by_cases hjl : j < l.length
    case neg =>
      have hjc : ¬ (j : Int) < (l.length : Int) := by omega
      obtain rfl : j = l.length := by omega
      rw [List.take_length] at HR
      go_wp2_with fail
      go_ret
      exact ⟨_, rfl, HR.out⟩
    case pos =>
      have hjc : (j : Int) < (l.length : Int) := by omega
      obtain ⟨B, o, rfl, hlt, hc⟩ := HI.out (by omega)
      have c0 : wr.cell? ⟨B, o + j, none⟩ = some (.string l[j]) := (HR.out.bel.cell (p := ⟨B, o + j, none⟩) hlt).trans (hc j hjl)
      have HT : Hid (srt (l.take (j + 1)) = ins (srt (l.take j)) l[j]) := Lib.hid (by rw [← List.take_append_getElem hjl, srt_snoc])
      have HLn : Hid ((srt (l.take j)).length = j) := Lib.hid (by rw [srt_len, List.length_take]; omega)
      generalize srt (l.take j) = L at *
      generalize l[j] = s at *
      obtain ⟨rfl, hLc, hcm, hcells⟩ := HR.out.form
      have HC := Lib.hid hcells
      have HCut := Lib.hid (cut_le L s)
      have HC1 := Lib.hid (cut_lt L s)
      have HC2 := Lib.hid (cut_at L s)
      have HIn := Lib.hid (ins_cut L s)
      rw [← HT.out] at HIn
      have hL6 : L.length ≤ 1000000 := by have := HLn.out; omega
      clear hcells hc
      generalize cut L s = k at *
      go_wp2_with fail
      go_loopg [6] (L.length + 1) (fun gg s6 wr2 => ∃ i : Nat, s6 = .int .i64 i ∧ i ≤ k ∧ L.length - i ≤ gg ∧ wr2 = wr)
      case atStart => exact ⟨0, rfl, by omega, by omega, rfl⟩
      case round =>
        obtain ⟨i, rfl, hi, hg2, rfl⟩ := hrel
        have hkL := HCut.out
        by_cases hik : i < k
        · have hil : i < L.length := by omega
          have hic : (i : Int) < (L.length : Int) := by omega
          have d0 := HC.out i hil
          have hb := HC1.out i hil hik
          unfold Ia.lt at hb
          clear HC1 HC2
          generalize L[i] = x at *
          have hb2 := le_or x s
          rw [hb] at hb2
          have hb2 : (Op.bytesLess x.toList s.toList || x.toList == s.toList) = true := hb2
          clear hb
          go_wp2_with fail
          go_roundg (gk - 1)
          case measure => omega
          case rel => exact ⟨i + 1, by go_num, by omega, by omega, rfl⟩
        · obtain rfl : i = k := by omega
          by_cases hil : i < L.length
          · have hic : (i : Int) < (L.length : Int) := by omega
            have d0 := HC.out i hil
            have hb := HC2.out hil
            unfold Ia.lt at hb
            have hb2 := le_or L[i] s
            rw [hb] at hb2
            have hb2 : (Op.bytesLess L[i].toList s.toList || L[i].toList == s.toList) = false := hb2
            obtain ⟨x, hx⟩ : ∃ x, L[i] = x := ⟨_, rfl⟩
            rw [hx] at d0 hb2
            clear hx HC1 HC2 hb
            have hii : (i : Int) ≤ (L.length : Int) := by omega
            have hcc : (L.length : Int) ≤ (c' : Int) := by omega
            have hic2 : (i : Int) ≤ (c' : Int) := by omega
            have h0i : (0 : Int) ≤ (i : Int) := by omega
            have HRM := Lib.hid (rowS_made wr)
            have HDl : Hid ((L.drop i).length = L.length - i) := Lib.hid List.length_drop
            have HID : Hid (∀ W ad, Below wr.heap.size wr W → (i < L.length → ad = some (⟨g, i, none⟩ : Addr)) → InS W ad (L.drop i)) := Lib.hid (fun W ad hW had => by
              intro hp
              rw [List.length_drop] at hp
              have hgl : g < wr.heap.size := World.block_lt_of_cell? wr _ (HC.out i (by omega))
              refine ⟨g, i, had (by omega), Nat.lt_of_lt_of_le hgl hW.size, fun q hq => ?_⟩
              rw [List.length_drop] at hq
              rw [List.getElem_drop]
              exact (hW.cell (p := ⟨g, i + q, none⟩) hgl).trans (HC.out (i + q) (by omega)))
            have hdl : (L.drop i).length ≤ 1000000000 := by rw [List.length_drop]; omega
            go_wp2_with (at_builtin; refine str_push HRM.out rfl _ _ rfl rfl (L.drop i) _ rfl HDl.out.symm (HID.out _ _ (bbox _) (fun h => by first | rfl | (exfalso; omega))) (by simp) hdl (fun e => by cases e) ?_)
            all_goals
              intro v3 w3 hR3
              have hR3 : RowS wr w3 v3 (L.drop i) := hR3
              obtain ⟨a3, c3, rfl, -, -, hz3, hI3⟩ := hR3.slice
              have HB3 := Lib.hid hR3.bel
              have HI3 := Lib.hid hI3
              have HZ3 := Lib.hid hz3
              have HZn : Hid (a3 = none → L.length - i = 0) := Lib.hid (fun e => by
                by_cases hp : 0 < (L.drop i).length
                · obtain ⟨b, o, h, -⟩ := hI3 hp; rw [e] at h; cases h
                · rw [HDl.out] at hp; omega)
              clear hR3 hI3 hz3
              have HCw : Hid (∀ O q (hq : q < L.length), (w3.alloc O).cell? ⟨g, q, none⟩ = some (.string L[q])) := Lib.hid (fun O q hq => by
                have hgl : g < wr.heap.size := World.block_lt_of_cell? wr _ (HC.out q hq)
                exact ((bstep HB3.out (bbox O)).cell (p := ⟨g, q, none⟩) hgl).trans (HC.out q hq))
              go_wp2_with (at_builtin; refine view_push rfl _ _ rfl L rfl hkL hL6 (HCw.out _) s rfl ?_ ?_)
              all_goals try (intro v4 w4 hR4)
              all_goals try (first | (rw [World.cell?_alloc_new]; rfl; done) | (simp; done))
              have HB4 := Lib.hid (bstep HB3.out (bstep (bbox _) hR4.bel))
              have HR4 := Lib.hid hR4
              have HI4 := Lib.hid (HI3.out.bel (bstep (bbox _) hR4.bel))
              clear hR4
              have hl4 : (L.take i ++ [s]).length ≤ 1000000000 := by rw [List.length_append, List.length_take]; simp; omega
              go_wp2_with (at_builtin; refine str_push HR4.out rfl _ _ rfl rfl (L.drop i) _ rfl HDl.out.symm HI4.out hl4 hdl (fun e => ⟨HZn.out e, HZ3.out e⟩) ?_)
              intro v5 w5 hR5
              have hR6 : RowS wr w5 v5 (srt (l.take (j + 1))) := by
                have h := hR5.over (bstep HB3.out (bbox _))
                rw [HIn.out]
                simpa using h
              obtain ⟨g5, c5, hv5⟩ := hR6.some' (by rw [srt_len, List.length_take]; omega)
              have HR6 := Lib.hid (hR6.over HR.out.bel)
              have HV5 := Lib.hid hv5
              clear hR5 hR6 hv5
              go_wp2_with fail
              go_roundg (gO - 1)
              case measure => omega
              case rel => exact ⟨j + 1, g5, _, c5, by go_num, by omega, by omega, HV5.out, by rw [← HV5.out]; exact HR6⟩
          · have hic : ¬ (i : Int) < (L.length : Int) := by omega
            clear HC1 HC2
            obtain rfl : i = L.length := by omega
            have HIn2 : Hid (srt (l.take (j + 1)) = L ++ [s]) := Lib.hid (by rw [HIn.out]; simp)
            have hcc : (L.length : Int) ≤ (c' : Int) := by omega
            have hz : L.length - L.length = 0 := Nat.sub_self _
            clear hkL hik hil HCut
            have HCw : Hid (∀ O1 O2 q (hq : q < L.length), ((wr.alloc O1).alloc O2).cell? ⟨g, q, none⟩ = some (.string L[q])) := Lib.hid (fun O1 O2 q hq => by
              have hgl : g < wr.heap.size := World.block_lt_of_cell? wr _ (HC.out q hq)
              exact ((bstep (bbox O1) (bbox O2)).cell (p := ⟨g, q, none⟩) hgl).trans (HC.out q hq))
            have HWW : Hid (∀ O1 O2, Below wr.heap.size wr ((wr.alloc O1).alloc O2)) := Lib.hid (fun O1 O2 => bstep (bbox O1) (bbox O2))
            have HYc : Hid (∀ O1, ((wr.alloc O1).alloc (.cells #[.string s] 9)).cell? ⟨wr.heap.size + 1, 0, none⟩ = some (.string s)) := Lib.hid (fun O1 => (CellL.new2 (wr.alloc O1) _ (by simp) [.string s] 9).at 0 rfl)
            go_wp2_with (at_builtin; refine view_push rfl _ _ rfl L rfl (Nat.le_refl _) hL6 (HCw.out _ _) s rfl (HYc.out _) ?_)
            all_goals
              intro v4 w4 hR4
              try simp only [List.take_length] at hR4
              have HR4 := Lib.hid (hR4.over (HWW.out _ _))
              clear hR4
              have hl4 : (L ++ [s]).length ≤ 1000000000 := by rw [List.length_append]; simp; omega
              go_wp2_with (at_builtin; refine str_push HR4.out rfl _ _ rfl rfl [] _ rfl rfl (InS.nil _ _) hl4 (by simp) (fun e => by cases e) ?_)
              intro v5 w5 hR5
              have hR6 : RowS wr w5 v5 (srt (l.take (j + 1))) := by
                rw [HIn2.out]
                simpa using hR5
              obtain ⟨g5, c5, hv5⟩ := hR6.some' (by rw [srt_len, List.length_take]; omega)
              have HR6 := Lib.hid (hR6.over HR.out.bel)
              have HV5 := Lib.hid hv5
              clear hR5 hR6 hv5
              go_wp2_with fail
              go_roundg (gO - 1)
              case measure => omega
              case rel => exact ⟨j + 1, g5, _, c5, by go_num, by omega, by omega, HV5.out, by rw [← HV5.out]; exact HR6⟩
end Go.Proofs.Ytnmncjeplfkdpaa.Ma
