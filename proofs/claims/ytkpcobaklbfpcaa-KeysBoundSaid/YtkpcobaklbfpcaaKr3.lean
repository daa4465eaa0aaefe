/- Layer 14, the checking package's Ids, All, Take. Conditions: they lie; bounds. -/
import Derived.Test.YtkpcobaklbfpcaaKr2
namespace Go.Proofs.Ytkpcobaklbfpcaa.Ka
set_option linter.unusedVariables false
set_option linter.unusedSimpArgs false
open Go.ChangeShapes Go.WideShapes Go.ChangeAt Go.RowKit
open Sp (Th Hp Stays All Ro roT cellsT rowT exT puT star)
open Ca (inK inK_iff inK_false dropK dropK_none)
theorem split_at {α : Type} (S : List α) {j : Nat} (hj : j < S.length) : S = S.take j ++ S[j] :: S.drop (j + 1) := by
  rw [← List.drop_eq_getElem_cons hj, List.take_append_drop]
theorem plainG_split (G : Gl) {j : Nat} (hj : j < G.length) : plainG G = plainG (G.take j) ++ (G[j].1, G[j].2.ids) :: plainG (G.drop (j + 1)) := by
  have := congrArg plainG (split_at G hj)
  unfold plainG at *
  rw [List.map_append, List.map_cons] at this
  exact this
theorem plainG_keys (G : Gl) : keysL (plainG G) = G.map (·.1) := by unfold keysL plainG; rw [List.map_map]; rfl
/-- Where a key stands. -/
theorem ids_at {G : Gl} (hn : (keysL (plainG G)).Nodup) {j : Nat} (hj : j < G.length) {k : ByteArray} (e : G[j].1 = k) : idsR k (plainG G) = G[j].2.ids := by
  have h := plainG_split G hj
  rw [h, e] at hn
  rw [h, e]
  exact ids_mid (mid_of hn)
theorem ids_out {G : Gl} {k : ByteArray} (h : ∀ i (hi : i < G.length), G[i].1 ≠ k) : k ∉ keysL (plainG G) := by
  rw [plainG_keys]
  intro hm
  obtain ⟨p, hp, e⟩ := List.mem_map.1 hm
  obtain ⟨i, hi, rfl⟩ := List.mem_iff_getElem.1 hp
  exact h i hi e
/-- Texts in a row. -/
def rowS (v : Value) (L : List ByteArray) : Th := rowT 9 1 v L.length (Ca.cellsT L)
def takeG (k : ByteArray) (G : Gl) : Gl := G.filter fun r => !decide (r.1 = k)
theorem takeG_plain (k : ByteArray) (G : Gl) : plainG (takeG k G) = takeR k (plainG G) := by
  unfold plainG takeG takeR
  rw [List.filter_map]; rfl
theorem takeG_step {k : ByteArray} {G : Gl} {j : Nat} (hj : j < G.length) : takeG k (G.take (j + 1)) = takeG k (G.take j) ++ (if G[j].1 = k then [] else [G[j]]) := by
  unfold takeG
  rw [← List.take_append_getElem hj, List.filter_append]
  congr 1
  by_cases h : G[j].1 = k
  · rw [if_pos h, List.filter_cons_of_neg (by simpa using h)]; rfl
  · rw [if_neg h, List.filter_cons_of_pos (by simpa using h)]; rfl
theorem takeG_len (k : ByteArray) (G : Gl) : (takeG k G).length ≤ G.length := List.length_filter_le _ _
section
variable {o w w' wb : World} {l : List Th} {B : Nat} {m : Int} {S : Rows} {k : ByteArray} {ids : List Int} {v : Value}
theorem ro_one {G : Gl} {r : ByteArray × Gw} (h : Hp o w (roT (allRo G) :: l)) (hr : r ∈ G) : Hp o w (roT (atRo r.2.a r.2.ids) :: roT (allRo G) :: l) := h.roDup.roMap fun hp => hp r hr
theorem ro_none (h : Hp o w l) (a : Option Addr) : Hp o w (roT (atRo a []) :: l) := h.roNew _ fun R hl => absurd hl (Nat.lt_irrefl _)
theorem ro_sub {G G' : Gl} (h : Hp o w (roT (allRo G) :: l)) (hs : ∀ r ∈ G', r ∈ G) : Hp o w (roT (allRo G') :: l) := h.roMap fun hp r hr => hp r (hs r hr)
theorem cells2_new (w : World) (a b : Value) (t : TypeId) : ∀ j u, [a, b][j]? = some u → (w.alloc (.cells #[a, b] t)).cell? ((⟨w.heap.size, 0, none⟩ : Addr).add j) = some u := fun j u hj => by
  rw [Addr.add_lit, Nat.zero_add, World.cell?_alloc_new]
  simpa using hj
/-- append of one text. -/
theorem sPush {ops : Array Oper} {rest : List Oper} {op : Oper} {a : Act} {Q : Exit → Act → World → Prop} {L : List ByteArray} (h : Hp o w (rowS v L :: l)) (hgd : op.guard = none) (s x : Operand)
    (ho : op.op = .call { callee := .builtin .append, args := #[s, x], argTypes := #[44, 44] }) (hs : a.eval s = v) (q : ByteArray) {b : Nat} (hx : a.eval x = .slice (some ⟨b, 0, none⟩) 1 1) (hb : b = w.heap.size) (hn : L.length ≤ 1000000)
    (K : ∀ v' w', Hp o w' (rowS v' (L ++ [q]) :: l) → wpList Try.prog ops Q rest (a.put op.dst v') w') :
    wpList Try.prog ops Q (op :: rest) a (w.alloc (.cells #[.string q] 9)) := by
  subst hb
  obtain ⟨i0, hi, hz0, hz1, hz2⟩ := info_parts Ca.iStr
  refine Hp.rowPush h (Sp.bbox _) hgd s x 44 ho i0 _ 16 Try.underlying44 hi hz0 hz1 hz2 rfl (by decide) hs ⟨w.heap.size, 0, none⟩ 1 1 [.string q] hx rfl ?_ ?_ ?_ ?_ fun v' w' h' hst => ?_
  · intro j u hj
    rw [Addr.add_lit, Nat.zero_add, World.cell?_alloc_new]
    simpa using hj
  · intro u hu; rw [List.mem_singleton.1 hu]; rfl
  · unfold maxLen; omega
  · omega
  · refine K v' w' ?_
    unfold rowS Ca.cellsT
    rw [List.length_append, List.map_append]
    exact h'
/-- append of one row. -/
theorem gPush {ops : Array Oper} {rest : List Oper} {op : Oper} {a : Act} {Q : Exit → Act → World → Prop} {G : Gl} (h : Hp o w (rowG v G :: l)) (hgd : op.guard = none) (s x : Operand)
    (ho : op.op = .call { callee := .builtin .append, args := #[s, x], argTypes := #[37, 37] }) (hs : a.eval s = v) (r : ByteArray × Gw) {b : Nat} (hx : a.eval x = .slice (some ⟨b, 0, none⟩) 1 1) (hb : b = w.heap.size) (hn : G.length ≤ 1000000)
    (K : ∀ v' w', Hp o w' (rowG v' (G ++ [r]) :: l) → wpList Try.prog ops Q rest (a.put op.dst v') w') :
    wpList Try.prog ops Q (op :: rest) a (w.alloc (.cells #[.string r.1, .slice r.2.a r.2.ids.length r.2.c] 62)) := by
  subst hb
  obtain ⟨i0, hi, hz0, hz1, hz2⟩ := info_parts iRow
  refine Hp.rowPush h (Sp.bbox _) hgd s x 37 ho i0 _ 40 Try.underlying37 hi hz0 hz1 hz2 rfl (by decide) hs ⟨w.heap.size, 0, none⟩ 1 1 (cells2 r) hx rfl (cells2_new w _ _ _) ?_ ?_ ?_ fun v' w' h' hst => ?_
  · intro u hu
    simp only [cells2, List.mem_cons, List.not_mem_nil, or_false] at hu
    rcases hu with rfl | rfl <;> rfl
  · unfold maxLen; omega
  · omega
  · refine K v' w' ?_
    unfold rowG
    rw [List.length_append, cellsG_app]
    have : cellsG [r] = cells2 r := List.append_nil _
    rw [this]
    exact h'
set_option maxHeartbeats 4000000 in
set_option maxRecDepth 100000 in
theorem rids_raw {G : Gl} (h : Hp o w (cellsT B [v, .int .i64 m] :: rowG v G :: roT (allRo G) :: l)) (hw : Below w.heap.size w wb) (hok : Ok (plainG G)) (hS : G.length ≤ 100000) (k : ByteArray) :
    Calls Try.prog 22 #[ptr B, .string k] wb fun e w' => ∃ a c, e = .returned (.slice a (idsR k (plainG G)).length c) ∧ Hp o w' (roT (atRo a (idsR k (plainG G))) :: cellsT B [v, .int .i64 m] :: rowG v G :: roT (allRo G) :: l) := by
  have h := h.bel hw
  have H0 := Lib.hid h
  have c0 := h.cell 0 rfl
  have HN := Lib.hid hok.nd
  have HOK := Lib.hid hok
  obtain ⟨a, cc, rfl, -, hcc, ha⟩ := (h.pull 1 rfl).rowForm
  clear h hw hok
  unfold ptr
  go_enter Try.func22, Try.ntmps22
  go_wp2_with fail
  go_loopg [6, 12] (G.length + 1) (fun g _ vi wr => ∃ j : Nat, vi = .int .i64 j ∧ j ≤ G.length ∧ G.length - j ≤ g ∧ Hid (∀ i (hi : i < G.length), i < j → G[i].1 ≠ k) ∧ Hid (Hp o wr (cellsT B [.slice a G.length cc, .int .i64 m] :: rowG (.slice a G.length cc) G :: roT (allRo G) :: l)))
  case atStart => exact ⟨0, rfl, by omega, by omega, Lib.hid (fun i hi h => by omega), H0⟩
  case round =>
    obtain ⟨j, rfl, hj, hg, HB, HH⟩ := hrel
    clear H0
    by_cases hjl : j < G.length
    case pos =>
      have hjc : (j : Int) < (G.length : Int) := by omega
      obtain ⟨gb, rfl⟩ := ha (by omega)
      obtain ⟨d0, d1⟩ := rowG_at (HH.out.pull 1 rfl) hjl
      have HX := Lib.hid (HH.out.bel (Sp.bbox (w := wr) (.cells #[.string G[j].1, .slice G[j].2.a G[j].2.ids.length G[j].2.c] 62)))
      clear ha
      by_cases hq : G[j].1 = k
      · have hqe := Ca.beq_eq hq
        have HF : Hid (∀ W : World, Hp o W (cellsT B [.slice (some ⟨gb, 0, none⟩) G.length cc, .int .i64 m] :: rowG (.slice (some ⟨gb, 0, none⟩) G.length cc) G :: roT (allRo G) :: l) → Hp o W (roT (atRo G[j].2.a (idsR k (plainG G))) :: cellsT B [.slice (some ⟨gb, 0, none⟩) G.length cc, .int .i64 m] :: rowG (.slice (some ⟨gb, 0, none⟩) G.length cc) G :: roT (allRo G) :: l)) := Lib.hid (fun W hh => by
          rw [ids_at HN.out hjl hq]
          have h1 := ro_one (hh.pull 2 rfl) (List.getElem_mem hjl)
          exact h1.sel [0, 2, 3, 1] rfl)
        have HE : Hid ((idsR k (plainG G)).length = G[j].2.ids.length) := Lib.hid (by rw [ids_at HN.out hjl hq])
        clear HH hq
        generalize G[j].1 = q at *
        generalize G[j].2.ids.length = n1 at *
        generalize G[j].2.c = c1 at *
        generalize G[j].2.a = a1 at *
        go_wp2_with fail
        go_ret
        exact ⟨a1, c1, by rw [HE.out]; rfl, HF.out _ HX.out⟩
      · have hqe := Ca.beq_ne hq
        have HB1 : Hid (∀ i (hi : i < G.length), i < j + 1 → G[i].1 ≠ k) := Lib.hid (fun i hi h => by
          by_cases e : i = j
          · subst e; exact hq
          · exact HB.out i hi (by omega))
        clear HH hq
        generalize G[j].1 = q at *
        generalize G[j].2.ids.length = n1 at *
        generalize G[j].2.c = c1 at *
        generalize G[j].2.a = a1 at *
        go_wp2_with fail
        go_roundg (gk - 1)
        case measure => omega
        case rel => exact ⟨j + 1, by go_num, by omega, by omega, HB1, HX⟩
    case neg =>
      have hjc : ¬ ((j : Int) < (G.length : Int)) := by omega
      have HE := Lib.hid (ids_none (ids_out (k := k) (G := G) fun i hi => HB.out i hi (by omega)))
      go_wp2_with fail
      go_ret
      refine ⟨none, ⟨0, by rw [HE.out]; rfl⟩, ?_⟩
      rw [HE.out]
      exact ro_none HH.out none
theorem rids_calls (h : Hp o w (refT B m S :: l)) (hw : Below w.heap.size w wb) (hS : S.length ≤ 100000) (k : ByteArray) :
    Calls Try.prog 22 #[ptr B, .string k] wb fun e w' => ∃ a c, e = .returned (.slice a (idsR k S).length c) ∧ Hp o w' (roT (atRo a (idsR k S)) :: refT B m S :: l) := by
  obtain ⟨G, v, rfl, hok, h⟩ := ref_open h
  rw [plainG_len] at hS
  refine (rids_raw h hw hok hS k).mono ?_
  rintro e w' ⟨a, c, rfl, h1⟩
  exact ⟨a, c, rfl, (ref_shut rfl hok (h1.sel [1, 2, 3] rfl)).swap⟩
set_option maxHeartbeats 4000000 in
set_option maxRecDepth 100000 in
theorem rall_raw {G : Gl} (h : Hp o w (cellsT B [v, .int .i64 m] :: rowG v G :: roT (allRo G) :: l)) (hw : Below w.heap.size w wb) (hS : G.length ≤ 100000) :
    Calls Try.prog 20 #[ptr B] wb fun e w' => ∃ v', e = .returned v' ∧ Hp o w' (rowS v' (keysL (plainG G)) :: cellsT B [v, .int .i64 m] :: rowG v G :: roT (allRo G) :: l) := by
  have h := h.bel hw
  have c0 : (wb.alloc (.cells #[] 9)).cell? ⟨B, 0, none⟩ = some v := (h.bel (Sp.bbox _)).cell 0 rfl
  obtain ⟨a, cc, rfl, -, hcc, ha⟩ := (h.pull 1 rfl).rowForm
  have H0 : Hid (Hp o (wb.alloc (.cells #[] 9)) (rowS (.slice (some ⟨wb.heap.size, 0, none⟩) 0 0) [] :: cellsT B [.slice a G.length cc, .int .i64 m] :: rowG (.slice a G.length cc) G :: roT (allRo G) :: l)) := Lib.hid (h.rowAdd (Sp.bbox _) (World.ownsRow_made wb #[] 0 (Nat.le_refl _) (Nat.zero_le _) rfl) (Nat.le_refl _))
  rw [plainG_keys]
  clear h hw
  unfold ptr
  go_enter Try.func20, Try.ntmps20
  go_wp2_with fail
  go_loopg [3, 5, 12] (G.length + 1) (fun g v3 _ vi wr => ∃ (j : Nat), vi = .int .i64 j ∧ j ≤ G.length ∧ G.length - j ≤ g ∧ Hid (Hp o wr (rowS v3 ((G.map (·.1)).take j) :: cellsT B [.slice a G.length cc, .int .i64 m] :: rowG (.slice a G.length cc) G :: roT (allRo G) :: l)))
  case atStart => exact ⟨0, rfl, by omega, by omega, H0⟩
  case round =>
    obtain ⟨j, rfl, hj, hg, HH⟩ := hrel
    clear H0
    by_cases hjl : j < G.length
    case pos =>
      have hjc : (j : Int) < (G.length : Int) := by omega
      obtain ⟨gb, rfl⟩ := ha (by omega)
      obtain ⟨d0, d1⟩ := rowG_at (HH.out.pull 2 rfl) hjl
      have HX := Lib.hid (HH.out.bel (Sp.bbox (w := wr) (.cells #[.string G[j].1, .slice G[j].2.a G[j].2.ids.length G[j].2.c] 62)))
      have HE : Hid ((G.map (·.1)).take (j + 1) = (G.map (·.1)).take j ++ [G[j].1]) := Lib.hid (by rw [← List.take_append_getElem (by rw [List.length_map]; exact hjl), List.getElem_map])
      have hlen : ((G.map (·.1)).take j).length ≤ 1000000 := by rw [List.length_take, List.length_map]; omega
      clear ha HH
      generalize (G.map (·.1)).take j = L1 at *
      obtain ⟨L2, HL2⟩ : ∃ L2, Hid ((G.map (·.1)).take (j + 1) = L2) := ⟨_, Lib.hid rfl⟩
      rw [HL2.out] at HE
      generalize G[j].1 = q at *
      generalize G[j].2.ids.length = n1 at *
      generalize G[j].2.c = c1 at *
      generalize G[j].2.a = a1 at *
      go_wp2_with (at_builtin; refine sPush HX.out rfl _ _ rfl rfl q rfl (by simp) hlen ?_)
      intro v' w' h'
      rw [← HE.out] at h'
      have H' := Lib.hid h'
      clear h' HX
      go_wp2_with fail
      go_roundg (gk - 1)
      case measure => omega
      case rel => exact ⟨j + 1, by go_num, by omega, by omega, by rw [HL2.out]; exact H'⟩
    case neg =>
      have hjc : ¬ ((j : Int) < (G.length : Int)) := by omega
      have e : (G.map (·.1)).take j = G.map (·.1) := List.take_of_length_le (by rw [List.length_map]; omega)
      rw [e] at HH
      go_wp2_with fail
      go_ret
      exact ⟨_, rfl, HH.out⟩
theorem rall_calls (h : Hp o w (refT B m S :: l)) (hw : Below w.heap.size w wb) (hS : S.length ≤ 100000) :
    Calls Try.prog 20 #[ptr B] wb fun e w' => ∃ v, e = .returned v ∧ Hp o w' (rowS v (keysL S) :: refT B m S :: l) := by
  obtain ⟨G, v, rfl, hok, h⟩ := ref_open h
  rw [plainG_len] at hS
  refine (rall_raw h hw hS).mono ?_
  rintro e w' ⟨v', rfl, h1⟩
  exact ⟨v', rfl, (ref_shut rfl hok (h1.sel [1, 2, 3] rfl)).swap⟩
end
end Go.Proofs.Ytkpcobaklbfpcaa.Ka
