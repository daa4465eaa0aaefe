/- The walk of the law WireCommands: true, at any texts. No condition but the tables. -/
import Derived.Test.YtpmlhmdmnbmnnaaGreatDoorWc3
namespace Go.Proofs.YtpmlhmdmnbmnnaaGreatDoor
open Go.ChangeShapes Go.WideShapes Go.ChangeAt Go.RowKit

theorem info_val : (Tryz.prog.info? 36).map (fun i => (i.zero, i.size, i.bytes)) = some (some (.agg #[.int .i64 0, .string ⟨#[]⟩, .int .i64 0, .float .f64 0, .bool false, .slice none 0 0]), 6, 72) := by kernel_rfl
/-- The cells of k Bulks in a row. -/
def bulkCells (T : Nat → ByteArray) : Nat → List Value
  | 0 => []
  | k + 1 => bulkCells T k ++ [.int .i64 4, .string (T k), .int .i64 0, .float .f64 0, .bool false, .slice none 0 0]
theorem bulkCells_length (T : Nat → ByteArray) (k : Nat) : (bulkCells T k).length = k * 6 := by
  induction k with
  | zero => rfl
  | succ k ih => show (bulkCells T k ++ _).length = _; rw [List.length_append, ih]; simp; omega
theorem bulkCells_get (T : Nat → ByteArray) : ∀ (m i q : Nat), i < m → q < 6 → (bulkCells T m)[i * 6 + q]? = ([.int .i64 4, .string (T i), .int .i64 0, .float .f64 0, .bool false, .slice none 0 0] : List Value)[q]? := by
  intro m
  induction m with
  | zero => intro i q h; omega
  | succ m ih =>
    intro i q hi hq
    show (bulkCells T m ++ _)[i * 6 + q]? = _
    by_cases h : i < m
    · rw [List.getElem?_append_left (by rw [bulkCells_length]; omega)]
      exact ih i q h hq
    · obtain rfl : i = m := by omega
      rw [List.getElem?_append_right (by rw [bulkCells_length]; omega), bulkCells_length]
      congr 1
      omega
theorem vals_push {w : World} {v : Value} {B k : Nat} {T : Nat → ByteArray} {ops : Array Oper} {rest : List Oper} {o : Oper} {a : Act} {Q : Exit → Act → World → Prop} (hO : w.ownsRow B 36 6 v k (bulkCells T k)) (hB : B ≤ w.heap.size) (hk : k ≤ 1000) (hgd : o.guard = none) (s x : Operand)
    (ho : o.op = .call { callee := .builtin .append, args := #[s, x], argTypes := #[34, 34] }) (hs : a.eval s = v) (arr : Array Value) (Te : TypeId)
    (hx : a.eval x = .slice (some ⟨w.heap.size, 0, none⟩) 1 1) (harr : arr = #[.int .i64 4, .string (T k), .int .i64 0, .float .f64 0, .bool false, .slice none 0 0])
    (h : ∀ v' w', w'.ownsRow B 36 6 v' (k + 1) (bulkCells T (k + 1)) → Below B w w' → wpList Tryz.prog ops Q rest (a.put o.dst v') w') : wpList Tryz.prog ops Q (o :: rest) a (w.alloc (.cells arr Te)) := by
  obtain ⟨i0, hi, hz0, hz1, hz2⟩ := info_parts info_val
  subst harr
  refine wpList_append_own _ hgd s x 34 ho B 36 i0 _ 6 72 Tryz.underlying34 hi hz0 hz1 hz2 rfl (by decide) v k (bulkCells T k) hs (hO.alloc _) ⟨w.heap.size, 0, none⟩ 1 1 [.int .i64 4, .string (T k), .int .i64 0, .float .f64 0, .bool false, .slice none 0 0] hx rfl
    (fun q u hq => by
      rw [Addr.add_lit, Nat.zero_add, World.cell?_alloc_new]
      simpa using hq) (fun u hu => by simp at hu; rcases hu with rfl | rfl | rfl | rfl | rfl | rfl <;> rfl) (by unfold maxLen; omega) (by omega) (by simp; omega) ?_
  intro v' w' hr hg _
  exact h v' w' hr ((Below.alloc (Below.refl B w) hB _).grown hg (by simp; omega) (fun q hq => (hO.lt q hq).1))
/-- The value under way: the Array of the first j. -/
structure Way (w : World) (B j : Nat) (T : Nat → ByteArray) (wr : World) (v : Value) : Prop where
  bel : Below w.heap.size w wr
  low : w.heap.size ≤ B
  lt : B < wr.heap.size
  c0 : wr.cell? ⟨B, 0, none⟩ = some (.int .i64 5)
  c1 : wr.cell? ⟨B, 1, none⟩ = some (.string ⟨#[]⟩)
  c2 : wr.cell? ⟨B, 2, none⟩ = some (.int .i64 0)
  c3 : wr.cell? ⟨B, 3, none⟩ = some (.float .f64 0)
  c4 : wr.cell? ⟨B, 4, none⟩ = some (.bool false)
  c5 : wr.cell? ⟨B, 5, none⟩ = some v
  fr : wr.frozen? ⟨B, 5, none⟩ = false
  row : wr.ownsRow (B + 1) 36 6 v j (bulkCells T j)
theorem Way.step {w wr w' : World} {B j : Nat} {T : Nat → ByteArray} {v v' : Value} (h : Way w B j T wr v) (hb : Below (B + 1) wr w') (hr : w'.ownsRow (B + 1) 36 6 v' (j + 1) (bulkCells T (j + 1))) :
    Way w B (j + 1) T (w'.setCell ⟨B, 5, none⟩ v') v' := by
  have hB : Below B w' (w'.setCell ⟨B, 5, none⟩ v') := Below.setCell (p := ⟨B, 5, none⟩) (Below.refl B w') (Nat.le_refl _) _
  have h5 : w'.cell? ⟨B, 5, none⟩ = some v := (hb.cell (p := ⟨B, 5, none⟩) (by show B < B + 1; omega)).trans h.c5
  have ho : ∀ q, q ≠ 5 → (w'.setCell ⟨B, 5, none⟩ v').cell? ⟨B, q, none⟩ = wr.cell? ⟨B, q, none⟩ := fun q hq => (World.cell?_setCell_other _ _ _ _ (addr_ne (.inr (Ne.symm hq)))).trans (hb.cell (p := ⟨B, q, none⟩) (by show B < B + 1; omega))
  have hz := hb.size
  have hl := h.lt
  refine ⟨h.bel.trans ((hb.mono (by have := h.low; omega)).trans (hB.mono h.low)), h.low, by simp; omega, (ho 0 (by omega)).trans h.c0, (ho 1 (by omega)).trans h.c1, (ho 2 (by omega)).trans h.c2, (ho 3 (by omega)).trans h.c3, (ho 4 (by omega)).trans h.c4,
    World.cell?_setCell_same w' _ _ h5, by rw [World.frozen?_setCell]; exact (hb.frozen (p := ⟨B, 5, none⟩) (by show B < B + 1; omega)).trans h.fr, ownsRow_setCell_below hr (by show B < B + 1; omega) _⟩
theorem Way.facts {w wr : World} {B j : Nat} {T : Nat → ByteArray} {v : Value} (h : Way w B j T wr v) :
    ∃ a c, v = .slice a j c ∧ j ≤ c ∧ c ≤ 9223372036854775807 ∧ (0 < j → ∃ b o, a = some ⟨b, o, none⟩ ∧ b < wr.heap.size) ∧ ∀ i, i < j → ∀ b o, a = some ⟨b, o, none⟩ → At wr b (o + i * 6) (vText (T i)) := by
  rcases h.row.2 with ⟨rfl, rfl⟩ | ⟨g, cap, cur, rfl, hg, hh, h1, h2, h3, h4⟩
  · exact ⟨none, 0, rfl, by omega, by omega, fun h => absurd h (by omega), fun i hi => absurd hi (by omega)⟩
  · refine ⟨some ⟨g, 0, none⟩, cap, rfl, h1, by unfold maxLen at h2; omega, fun _ => ⟨g, 0, rfl, ?_⟩, fun i hi b o e => ?_⟩
    · exact (Array.getElem?_eq_some_iff.1 hh).1
    · injection e with e; injection e with e1 e2; subst e1; subst e2
      have hc : ∀ q, q < 6 → wr.cell? ⟨g, 0 + i * 6 + q, none⟩ = ([.int .i64 4, .string (T i), .int .i64 0, .float .f64 0, .bool false, .slice none 0 0] : List Value)[q]? := fun q hq => by
        have e1 : (cur.toList.take (j * 6))[i * 6 + q]? = cur.toList[i * 6 + q]? := List.getElem?_take_of_lt (by omega)
        rw [← bulkCells_get T j i q hi hq, ← h4, e1]
        simp only [World.cell?, hh]
        simp
      exact ⟨hc 0 (by omega), hc 1 (by omega), hc 2 (by omega), hc 3 (by omega), hc 4 (by omega), hc 5 (by omega)⟩
theorem step_conv {P : Program} {ops : Array Oper} {o : Oper} {a : Act} {w : World} {K : Act → World → Prop} {Q : Exit → Act → World → Prop} {E : Prop} (hg : o.guard = none) (t1 t2 : TypeId) (x : Operand)
    (hop : o.op = Op.convert t1 t2 x) (v u : Value) (hx : a.eval x = v) (hrun : (convert t1 t2 v).run P w = .ok u w) (hK : K (a.put o.dst u) w) :
    if Region.wanted o (yielded ops a.tmps) = true then Oper.wp P o a w K Q else E := by
  have hw : Region.wanted o (yielded ops a.tmps) = true := by simp [Region.wanted, hg]
  rw [if_pos hw]
  unfold Oper.wp
  simp [execOp, hop, hx, hrun, Result.andThen]
  exact hK
set_option maxHeartbeats 4000000 in
set_option maxRecDepth 100000 in
theorem wireCommands (w : World) (hc : WCtx w) (a : Option Addr) (c n : Nat) (T : Nat → ByteArray) (hnc : n ≤ c) (hcm : c ≤ 9223372036854775807) (hT : ∀ i, i < n → (T i).size ≤ 281474976710656)
    (hadr : 0 < n → ∃ b o, a = some ⟨b, o, none⟩ ∧ b < w.heap.size) (hcell : ∀ i, i < n → ∀ b o, a = some ⟨b, o, none⟩ → w.cell? ⟨b, o + i, none⟩ = some (.string (T i))) :
    Calls Tryz.prog 6 #[.slice a n c] w fun e w' => e = .returned (.bool true) ∧ Below w.heap.size w w' := by
  have Halive := Lib.hid (walive_calls w hc)
  have HC := Lib.hid hc
  have HT := Lib.hid hT
  have Hadr := Lib.hid hadr
  have Hcell := Lib.hid hcell
  clear hc hT hadr hcell
  by_cases h100 : 100 < n
  · go_enter Tryz.func6, Tryz.ntmps6
    go_wp2_with fail
    refine Halive.out.mono ?_; rintro en w1 ⟨rfl, hb1⟩
    have Hb1 := Lib.hid hb1
    clear hb1
    go_wp2_with fail
    go_ret
    exact ⟨rfl, Hb1.out⟩
  go_enter Tryz.func6, Tryz.ntmps6
  go_wp2_with fail
  refine Halive.out.mono ?_; rintro en w1 ⟨rfl, hb1⟩
  have Hb1 := Lib.hid hb1
  clear hb1
  go_wp2_with fail
  have hw0 : Way w w1.heap.size 0 T (w1.alloc (.cells #[.int .i64 5, .string ⟨#[]⟩, .int .i64 0, .float .f64 0, .bool false, .slice none 0 0] 36)) (.slice none 0 0) :=
    ⟨bstep Hb1.out ((Below.refl _ _).alloc (Nat.le_refl _) _), Hb1.out.size, by simp, by go_simp, by go_simp, by go_simp, by go_simp, by go_simp, by go_simp, by go_simp, World.ownsRow_nil _ _ _ _⟩
  have Hw0 := Lib.hid hw0
  clear hw0
  generalize hW : w1.alloc _ = W at *
  clear hW
  generalize hB : w1.heap.size = B at *
  go_loopw [5, 14] (fun _ i wr => ∃ (j : Nat) (v : Value), j ≤ n ∧ i = .int .i64 j ∧ (∀ i, i < j → (T i).size ≤ 500) ∧ Way w B j T wr v) (fun _ i _ => n - (intOf i).toNat)
  case atStart => exact ⟨0, _, by omega, rfl, fun i hi => absurd hi (by omega), Hw0.out⟩
  case round =>
    obtain ⟨j, v, hj, rfl, hs, hw⟩ := hrel
    have Hs := Lib.hid hs
    have Hw := Lib.hid hw
    clear hs hw
    by_cases hlt : j < n
    · obtain ⟨b2, o2, rfl, hb2⟩ := Hadr.out (by omega)
      have hjn : j < c := by omega
      have hx : wr.cell? ⟨b2, o2 + j, none⟩ = some (.string (T j)) := (Hw.out.bel.cell (p := ⟨b2, o2 + j, none⟩) hb2).trans (Hcell.out j hlt b2 o2 rfl)
      have htj := HT.out j hlt
      by_cases h500 : 500 < (T j).size
      · go_wp2_with fail
        go_ret
        exact ⟨rfl, Hw.out.bel⟩
      · have x5 := Hw.out.c5
        have xf := Hw.out.fr
        have hlt2 := Hw.out.lt
        go_wp2_with (at_builtin; refine vals_push Hw.out.row ?hB1 ?hk1 rfl _ _ rfl rfl _ _ rfl rfl ?_)
        case hB1 => omega
        case hk1 => omega
        intro v2 w2 hr2 hb2'
        obtain ⟨g, cap, rfl⟩ : ∃ g cap, v2 = .slice (some ⟨g, 0, none⟩) (j + 1) cap := by
          rcases hr2.2 with ⟨-, h⟩ | ⟨g, cap, cur, rfl, -⟩
          · omega
          · exact ⟨g, cap, rfl⟩
        have hst := Hw.out.step hb2' hr2
        have Hst := Lib.hid hst
        have y5 : w2.cell? ⟨B, 5, none⟩ = some v := (hb2'.cell (p := ⟨B, 5, none⟩) (by show B < B + 1; omega)).trans Hw.out.c5
        have yf : w2.frozen? ⟨B, 5, none⟩ = false := (hb2'.frozen (p := ⟨B, 5, none⟩) (by show B < B + 1; omega)).trans Hw.out.fr
        clear hst hb2' hr2 x5 xf hx
        go_wp2_with fail
        go_roundw
        case rel =>
          refine ⟨j + 1, _, by omega, by go_num, fun i hi => ?_, Hst.out⟩
          by_cases e : i = j
          · subst e; omega
          · exact Hs.out i (by omega)
        case measure => simp [intOf]; omega
    · obtain rfl : j = n := by omega
      obtain ⟨a2, c2, rfl, hjc2, hcm2, hadr2, hk2⟩ := Hw.out.facts
      have HA2 := Lib.hid hadr2
      have HK2 := Lib.hid hk2
      have H1 : Hid (Calls _ _ #[.slice a j c] wr.drew fun e w' => ∃ v, e = .returned v ∧ Buf wr.drew w' v (commandB T j)) := Lib.hid (command_calls wr.drew (HC.out.below (Hw.out.bel.drew)) a c j T hnc hcm (by omega) (fun i hi => by have := Hs.out i hi; omega)
        (fun h => by obtain ⟨b, o, e, hb⟩ := Hadr.out h; exact ⟨b, o, e, Nat.lt_of_lt_of_le hb Hw.out.bel.drew.size⟩)
        (fun i hi b o e => by
          obtain ⟨b3, o3, e3, hb3⟩ := Hadr.out (by omega)
          have hbb : b < w.heap.size := by rw [e] at e3; injection e3 with e3; injection e3 with e4 e5; omega
          exact (Hw.out.bel.drew.cell (p := ⟨b, o + i, none⟩) hbb).trans (Hcell.out i hi b o e)))
      have HS : Hid (∀ w', Below wr.heap.size wr w' → (fun w' => w'.cell? ⟨B, 0, none⟩ = some (.int .i64 5) ∧ w'.cell? ⟨B, 1, none⟩ = some (.string ⟨#[]⟩) ∧ w'.cell? ⟨B, 2, none⟩ = some (.int .i64 0) ∧ w'.cell? ⟨B, 3, none⟩ = some (.float .f64 0) ∧ w'.cell? ⟨B, 4, none⟩ = some (.bool false) ∧ w'.cell? ⟨B, 5, none⟩ = some (.slice a2 j c2)) w') := Lib.hid fun w' h => by
        have hl := Hw.out.lt
        exact ⟨(h.cell (p := ⟨B, 0, none⟩) hl).trans Hw.out.c0, (h.cell (p := ⟨B, 1, none⟩) hl).trans Hw.out.c1, (h.cell (p := ⟨B, 2, none⟩) hl).trans Hw.out.c2, (h.cell (p := ⟨B, 3, none⟩) hl).trans Hw.out.c3, (h.cell (p := ⟨B, 4, none⟩) hl).trans Hw.out.c4, (h.cell (p := ⟨B, 5, none⟩) hl).trans Hw.out.c5⟩
      have H2 : Hid (∀ w', Below wr.heap.size wr w' → Calls _ _ #[.agg #[.int .i64 5, .string ⟨#[]⟩, .int .i64 0, .float .f64 0, .bool false, .slice a2 j c2], .int .i64 3] w' fun e w'' => ∃ v, e = .returned v ∧ (v = .string ⟨(commandB T j).toArray⟩ ∧ Below w'.heap.size w' w'')) := Lib.hid fun w' h => (rbytes_array a2 c2 j T w' hjc2 hcm2 (by omega) (fun i hi => by have := Hs.out i hi; omega)
        (fun h0 => by obtain ⟨b, o, e, hb⟩ := HA2.out h0; exact ⟨b, o, e, Nat.lt_of_lt_of_le hb h.size⟩)
        (fun i hi b o e => by
          obtain ⟨b3, o3, e3, hb3⟩ := HA2.out (by omega)
          have hbb : b < wr.heap.size := by rw [e] at e3; injection e3 with e3; injection e3 with e4 e5; omega
          exact (HK2.out i hi b o e).below h hbb)).mono fun e w'' h => ⟨_, h.1, rfl, h.2⟩
      have E1 : Hid (∀ args w, (callFunc 29 args).run Tryz.prog w = .ok (.enter 29 args) w) := Lib.hid (enters_fn Tryz.func29 (by kernel_rfl) rfl)
      have E2 : Hid (∀ args w, (callFunc 24 args).run Tryz.prog w = .ok (.enter 24 args) w) := Lib.hid (enters_fn Tryz.func24 (by kernel_rfl) rfl)
      have Hne : Hid (commandB T j ≠ []) := Lib.hid (by unfold commandB; simp)
      have hbd : Below wr.heap.size wr wr.drew := (Below.refl _ _).drew
      have Hbd := Lib.hid hbd
      have Hbw := Lib.hid Hw.out.bel
      generalize hcb : commandB T j = l at *
      clear hadr2 hk2 HA2 HK2 hcb hbd
      go_wp2_with fail
      refine wp_region_held_drew (S := (fun w' => w'.cell? ⟨B, 0, none⟩ = some (.int .i64 5) ∧ w'.cell? ⟨B, 1, none⟩ = some (.string ⟨#[]⟩) ∧ w'.cell? ⟨B, 2, none⟩ = some (.int .i64 0) ∧ w'.cell? ⟨B, 3, none⟩ = some (.float .f64 0) ∧ w'.cell? ⟨B, 4, none⟩ = some (.bool false) ∧ w'.cell? ⟨B, 5, none⟩ = some (.slice a2 j c2))) (by kernel_rfl) (HS.out _ Hbd.out) (fun hHeld => ?_)
      -- by hand: the tactic warns where a conversion is known behind a call alone
      refine wpAnyH_take (i := 0) (v := ?v0) rfl (by kernel_rfl) (by kernel_rfl) (by kernel_rfl) (fun _ _ _ h => h) (Or.inl ⟨by rfl, ?hy0⟩) hHeld ?r0
      case hy0 => (intro w' hSw; (try dsimp only at hSw); go_simp; try with_reducible rfl)
      case r0 =>
      try simp only [Act.put]
      refine wpAnyH_take (i := 3) (v := ?v3) rfl (by kernel_rfl) (by kernel_rfl) (by kernel_rfl) (fun _ _ _ h => h) (Or.inl ⟨by rfl, ?hy3⟩) hHeld ?r3
      case hy3 => (intro w' hSw; (try dsimp only at hSw); go_simp; try with_reducible rfl)
      case r3 =>
      try simp only [Act.put]
      refine wpAnyH_ready (rs := [1]) (by kernel_rfl) (by simp) (AllReadyH.cons rfl (fun K hK => ?_) AllReadyH.nil)
      refine step_call rfl 29 _ _ rfl #[.slice a j c] ?hx1 E1.out H1.out ?r1
      case hx1 => (simp [Act.eval]; done)
      case r1 =>
      intro v1 w4 hO1
      have HO1 := Lib.hid hO1
      clear hO1
      refine hK.out _ _ (HS.out _ (bstep Hbd.out HO1.out.bel)) (fun hHeld2 => ?_)
      clear hK K hHeld
      try simp only [Act.put]
      refine wpAnyH_ready (rs := [2, 4]) (by kernel_rfl) (by simp) (AllReadyH.cons rfl (fun K hK => ?_) (AllReadyH.cons rfl (fun K hK => ?_) AllReadyH.nil))
      case' refine_1 =>
        refine step_conv rfl 39 9 _ rfl v1 (.string ⟨l.toArray⟩) ?hx2 (buf_conv HO1.out Hne.out) ?r2
        case hx2 => (simp [Act.eval]; done)
        case' r2 =>
        refine hK.out _ _ (HS.out _ (bstep Hbd.out HO1.out.bel)) (fun hHeld3 => ?_)
        clear hK K hHeld2
        try simp only [Act.put]
        refine wpAnyH_ready (rs := [4]) (by kernel_rfl) (by simp) (AllReadyH.cons rfl (fun K hK => ?_) AllReadyH.nil)
        refine step_call rfl 24 _ _ rfl #[.agg #[.int .i64 5, .string ⟨#[]⟩, .int .i64 0, .float .f64 0, .bool false, .slice a2 j c2], .int .i64 3] ?hx4 E2.out (H2.out _ (bstep Hbd.out HO1.out.bel)) ?r4
        case hx4 => (simp [Act.eval]; done)
        case' r4 =>
        rintro v2 w5 ⟨rfl, hO2⟩
        have HO2 := Lib.hid hO2
        clear hO2
        refine hK.out _ _ (HS.out _ (bstep (bstep Hbd.out HO1.out.bel) HO2.out)) (fun hHeld4 => ?_)
        clear hK K hHeld3
        try simp only [Act.put]
      case' refine_2 =>
        refine step_call rfl 24 _ _ rfl #[.agg #[.int .i64 5, .string ⟨#[]⟩, .int .i64 0, .float .f64 0, .bool false, .slice a2 j c2], .int .i64 3] ?hx4 E2.out (H2.out _ (bstep Hbd.out HO1.out.bel)) ?r4
        case hx4 => (simp [Act.eval]; done)
        case' r4 =>
        rintro v2 w5 ⟨rfl, hO2⟩
        have HO2 := Lib.hid hO2
        clear hO2
        refine hK.out _ _ (HS.out _ (bstep (bstep Hbd.out HO1.out.bel) HO2.out)) (fun hHeld4 => ?_)
        clear hK K hHeld2
        try simp only [Act.put]
        refine wpAnyH_ready (rs := [2]) (by kernel_rfl) (by simp) (AllReadyH.cons rfl (fun K hK => ?_) AllReadyH.nil)
        refine step_conv rfl 39 9 _ rfl v1 (.string ⟨l.toArray⟩) ?hx2 (buf_conv (HO1.out.below HO2.out) Hne.out) ?r2
        case hx2 => (simp [Act.eval]; done)
        case' r2 =>
        refine hK.out _ _ (HS.out _ (bstep (bstep Hbd.out HO1.out.bel) HO2.out)) (fun hHeld5 => ?_)
        clear hK K hHeld4
        try simp only [Act.put]
      all_goals
        refine wpAnyH_ready (rs := [5]) (by kernel_rfl) (by simp) (AllReadyH.cons rfl (fun K hK => ?_) AllReadyH.nil)
        go_simp
        refine hK.out _ _ (HS.out _ (bstep (bstep Hbd.out HO1.out.bel) HO2.out)) (fun hHeld6 => ?_)
        clear hK K
        try simp only [Act.put]
        refine wpAnyH_ready (rs := [6]) (by kernel_rfl) (by simp) (AllReadyH.cons rfl (fun K hK => ?_) AllReadyH.nil)
        go_simp
        refine hK.out _ _ (HS.out _ (bstep (bstep Hbd.out HO1.out.bel) HO2.out)) (fun hHeld7 => ?_)
        clear hK K
        refine wpAnyH_done (by kernel_rfl) ?_ _
      all_goals
        go_wp2_with fail
        go_ret
        refine ⟨?_, bstep Hbw.out (bstep (bstep Hbd.out HO1.out.bel) HO2.out)⟩
        first | rfl | simp
end Go.Proofs.YtpmlhmdmnbmnnaaGreatDoor
