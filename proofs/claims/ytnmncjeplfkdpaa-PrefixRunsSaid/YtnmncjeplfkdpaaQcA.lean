/- Package prefix: of each client its beginnings as a thing (ofT); a Prefixes (prefT). No condition. -/
import Derived.Test.YtnmncjeplfkdpaaQbA
namespace Go.Proofs.Ytnmncjeplfkdpaa.Qa
set_option linter.unusedVariables false
set_option linter.unusedSimpArgs false
open Go.ChangeShapes Go.WideShapes Go.ChangeAt Go.RowKit Go.Maps Go.WideMaps
open Ka
open Sp (Th Hp Stays All cellsT rowT exT puT star mapT setG Sl nmapT setN)
def strs (l : List ByteArray) : List Value := l.map Value.string
theorem strs_len (l : List ByteArray) : (strs l).length = l.length := List.length_map _
/-- A row of texts. -/
def rowS (v : Value) (l : List ByteArray) : Th := rowT 9 1 v l.length (strs l)
/-- A client's texts as they lie. -/
structure Cw where
  ps : List ByteArray
  g : Nat
  c : Nat
abbrev Fl := List (Int × Cw)
def slC (r : Cw) : Sl := ⟨some ⟨r.g, 0, none⟩, r.ps.length, r.c⟩
def slF (L : Fl) : List (Int × Sl) := L.map fun r => (r.1, slC r.2)
def plainF (L : Fl) : Cl := L.map fun r => (r.1, r.2.ps)
def rowC (r : Int × Cw) : Th := rowS (.slice (some ⟨r.2.g, 0, none⟩) r.2.ps.length r.2.c) r.2.ps
theorem zeroP (w : World) : (zeroValue 44).run Try.prog w = .ok (.slice none 0 0) w := by kernel_rfl
noncomputable def elP : Sp.El Try.prog 44 Sl := Sp.slEl Try.prog 44 zeroP
noncomputable def ofT (M : Nat) (F : Cl) (N : Nat) : Th := exT fun g : Fl × Nat × Nat => puT (plainF g.1 = F ∧ OkC F ∧ g.2.2 ≤ N) (star [nmapT 3 elP M g.2.1 g.2.2 (lookN (slF g.1)), star (g.1.map rowC)])
theorem plainF_keys (L : Fl) : keysN (slF L) = keysN (plainF L) := by unfold keysN slF plainF; rw [List.map_map, List.map_map]; rfl
theorem plainF_mid {L : Fl} {A B : Cl} {n : Int} {l : List ByteArray} (h : plainF L = A ++ (n, l) :: B) : ∃ LA g c LB, L = LA ++ (n, ⟨l, g, c⟩) :: LB ∧ plainF LA = A ∧ plainF LB = B := by
  unfold plainF at h
  obtain ⟨LA, r, rfl, h1, h2⟩ := List.map_eq_append_iff.1 h
  obtain ⟨p, LB, rfl, h3, h4⟩ := List.map_eq_cons_iff.1 h2
  obtain ⟨k', ⟨l', g, c⟩⟩ := p
  injection h3 with e1 e2
  subst e1 e2
  exact ⟨LA, g, c, LB, rfl, h1, h4⟩
theorem slF_app (A B : Fl) (r : Int × Cw) : slF (A ++ r :: B) = slF A ++ (r.1, slC r.2) :: slF B := by unfold slF; rw [List.map_append, List.map_cons]
theorem slF_app2 (A B : Fl) : slF (A ++ B) = slF A ++ slF B := by unfold slF; rw [List.map_append]
theorem plainF_app (A B : Fl) : plainF (A ++ B) = plainF A ++ plainF B := by unfold plainF; rw [List.map_append]
theorem mid_slF {A B : Cl} {n : Int} (h : MidN n A B) {LA LB : Fl} (ha : plainF LA = A) (hb : plainF LB = B) : MidN n (slF LA) (slF LB) := ⟨by rw [plainF_keys, ha]; exact h.a, by rw [plainF_keys, hb]; exact h.b⟩
section
variable {o w w' wb : World} {l : List Th} {M N : Nat} {F A B : Cl} {n : Int} {ps : List ByteArray}
theorem of_open (h : Hp o w (ofT M F N :: l)) : ∃ L m c, plainF L = F ∧ OkC F ∧ c ≤ N ∧ Hp o w (nmapT 3 elP M m c (lookN (slF L)) :: star (L.map rowC) :: l) := by
  obtain ⟨⟨L, m, c⟩, h⟩ := h.ex
  obtain ⟨⟨h1, h2, h3⟩, h⟩ := h.pu
  exact ⟨L, m, c, h1, h2, h3, h.open⟩
theorem of_shut {L : Fl} {m c : Nat} (h1 : plainF L = F) (h2 : OkC F) (h3 : c ≤ N) (h : Hp o w (nmapT 3 elP M m c (lookN (slF L)) :: star (L.map rowC) :: l)) : Hp o w (ofT M F N :: l) :=
  Hp.mkEx (L, m, c) (Hp.mkPu ⟨h1, h2, h3⟩ (Hp.shut (m := [nmapT 3 elP M m c (lookN (slF L)), star (L.map rowC)]) h))
theorem of_ok (h : Hp o w (ofT M F N :: l)) : OkC F := by
  obtain ⟨L, m, c, -, h, -⟩ := of_open h
  exact h
theorem of_more {N' : Nat} (h : Hp o w (ofT M F N :: l)) (hn : N ≤ N') : Hp o w (ofT M F N' :: l) := by
  obtain ⟨L, m, c, h1, h2, h3, h⟩ := of_open h
  exact of_shut h1 h2 (Nat.le_trans h3 hn) h
/-- A client's row to the front. -/
theorem of_mid (h : Hp o w (ofT M (A ++ (n, ps) :: B) N :: l)) : ∃ LA LB g c m cm, plainF LA = A ∧ plainF LB = B ∧ cm ≤ N ∧ Hp o w (rowS (.slice (some ⟨g, 0, none⟩) ps.length c) ps :: nmapT 3 elP M m cm (lookN (slF LA ++ (n, ⟨some ⟨g, 0, none⟩, ps.length, c⟩) :: slF LB)) :: star ((LA ++ LB).map rowC) :: l) := by
  obtain ⟨L, m, cm, h1, h2, h3, h⟩ := of_open h
  obtain ⟨LA, g, c, LB, rfl, hA, hB⟩ := plainF_mid h1
  rw [slF_app, List.map_append, List.map_cons] at h
  have h4 := Hp.starMid (h.pull 1 rfl)
  rw [← List.map_append] at h4
  have h5 : Hp o w (rowC (n, ⟨ps, g, c⟩) :: star ((LA ++ LB).map rowC) :: nmapT 3 elP M m cm (lookN (slF LA ++ (n, slC ⟨ps, g, c⟩) :: slF LB)) :: l) := h4
  exact ⟨LA, LB, g, c, m, cm, hA, hB, h3, h5.sel [0, 2, 1] rfl⟩
theorem of_back {LA LB : Fl} {g c m cm : Nat} (hA : plainF LA = A) (hB : plainF LB = B) (hc : cm ≤ N) (hok : OkC (A ++ (n, ps) :: B))
    (h : Hp o w (rowS (.slice (some ⟨g, 0, none⟩) ps.length c) ps :: nmapT 3 elP M m cm (lookN (slF LA ++ (n, ⟨some ⟨g, 0, none⟩, ps.length, c⟩) :: slF LB)) :: star ((LA ++ LB).map rowC) :: l)) : Hp o w (ofT M (A ++ (n, ps) :: B) N :: l) := by
  have h5 : Hp o w (rowC (n, ⟨ps, g, c⟩) :: star (LA.map rowC ++ LB.map rowC) :: nmapT 3 elP M m cm (lookN (slF LA ++ (n, ⟨some ⟨g, 0, none⟩, ps.length, c⟩) :: slF LB)) :: l) := by
    rw [← List.map_append]
    exact h.sel [0, 2, 1] rfl
  have h6 := h5.starBack
  refine of_shut (L := LA ++ (n, ⟨ps, g, c⟩) :: LB) (m := m) (c := cm) (by rw [plainF_app, hA, ← hB]; rfl) hok hc ?_
  rw [slF_app, List.map_append, List.map_cons]
  exact h6.swap
/-- .. and without it. -/
theorem of_gone {LA LB : Fl} {m cm : Nat} (hA : plainF LA = A) (hB : plainF LB = B) (hc : cm ≤ N) (hok : OkC (A ++ B))
    (h : Hp o w (nmapT 3 elP M m cm (lookN (slF LA ++ slF LB)) :: star ((LA ++ LB).map rowC) :: l)) : Hp o w (ofT M (A ++ B) N :: l) := by
  refine of_shut (L := LA ++ LB) (m := m) (c := cm) (by rw [plainF_app, hA, hB]) hok hc ?_
  rw [slF_app2]
  exact h
end
/-- A Prefixes: its pairs. -/
noncomputable def prefT (T : Nat) (P : Pl) (N : Nat) : Th := exT fun g : (Nat × Nat × Nat) × Rows × Cl => puT (Rel P g.2.1 g.2.2 ∧ ∀ p ∈ P, p.1.size ≤ 140737488351232) (star [cellsT T [ptr g.1.1, .map (some g.1.2.1), .map (some g.1.2.2)], rowsT g.1.1 g.1.2.1 g.2.1 N, ofT g.1.2.2 g.2.2 N])
section
variable {o w w' wb : World} {l : List Th} {T N : Nat} {P : Pl}
theorem pref_open (h : Hp o w (prefT T P N :: l)) : ∃ A M Mo S F, Rel P S F ∧ (∀ p ∈ P, p.1.size ≤ 140737488351232) ∧ Hp o w (cellsT T [ptr A, .map (some M), .map (some Mo)] :: rowsT A M S N :: ofT Mo F N :: l) := by
  obtain ⟨⟨⟨A, M, Mo⟩, S, F⟩, h⟩ := h.ex
  obtain ⟨⟨h1, h2⟩, h⟩ := h.pu
  exact ⟨A, M, Mo, S, F, h1, h2, h.open⟩
theorem pref_shut {A M Mo : Nat} {S : Rows} {F : Cl} (h1 : Rel P S F) (h2 : ∀ p ∈ P, p.1.size ≤ 140737488351232) (h : Hp o w (cellsT T [ptr A, .map (some M), .map (some Mo)] :: rowsT A M S N :: ofT Mo F N :: l)) : Hp o w (prefT T P N :: l) :=
  Hp.mkEx ((A, M, Mo), S, F) (Hp.mkPu ⟨h1, h2⟩ (Hp.shut (m := [cellsT T [ptr A, .map (some M), .map (some Mo)], rowsT A M S N, ofT Mo F N]) h))
theorem pref_more {N' : Nat} (h : Hp o w (prefT T P N :: l)) (hn : N ≤ N') : Hp o w (prefT T P N' :: l) := by
  obtain ⟨A, M, Mo, S, F, h1, h2, h⟩ := pref_open h
  have h3 := rows_more (h.pull 1 rfl) hn
  have h4 := of_more (h3.pull 2 rfl) hn
  exact pref_shut h1 h2 (h4.sel [2, 1, 0] rfl)
theorem pref_nd (h : Hp o w (prefT T P N :: l)) : P.Nodup ∧ ∀ p ∈ P, p.1.size ≤ 140737488351232 := by
  obtain ⟨A, M, Mo, S, F, h1, h2, -⟩ := pref_open h
  exact ⟨h1.nd, h2⟩
end
theorem Rel.add {P : Pl} {S : Rows} {F : Cl} (h : Rel P S F) {k : ByteArray} {n : Int} (hk : k.size ≤ maxLen) (hn : (Lit.int .i64 n).wf = true) {F' : Cl} (hF : OkC F') (hc : ∀ k' n', hasC F' k' n' ↔ hasC F k' n' ∨ (k' = k ∧ n' = n)) : Rel (addP k n P) (addR k n S) F' := by
  have e : ∀ k' n', ((k', n') : ByteArray × Int) = (k, n) ↔ k' = k ∧ n' = n := fun k' n' => by simp
  exact ⟨addP_nd h.nd, h.ok.add hk hn, hF, fun k' n' => by rw [mem_addP, hasR_add h.ok, h.r, e], fun k' n' => by rw [mem_addP, hc, h.c, e]⟩
theorem Rel.has {P : Pl} {S : Rows} {F : Cl} (h : Rel P S F) (k : ByteArray) (n : Int) : n ∈ idsR k S ↔ (k, n) ∈ P := by rw [hasR_ids h.ok.nd, h.r]
theorem Rel.none_ {P : Pl} {S : Rows} {F : Cl} (h : Rel P S F) (k : ByteArray) (n : Int) (hp : (k, n) ∉ P) : k ∉ ofC n F := fun hh => hp ((h.c k n).2 ((ofC_mem h.oc.nd k n).1 hh))
end Go.Proofs.Ytnmncjeplfkdpaa.Qa
/- Package prefix: New, Add, Len, Nodes. Conditions: bounds. -/
namespace Go.Proofs.Ytnmncjeplfkdpaa.Qa
set_option linter.unusedVariables false
set_option linter.unusedSimpArgs false
open Go.ChangeShapes Go.WideShapes Go.ChangeAt Go.RowKit Go.Maps Go.WideMaps
open Ka
open Sp (Th Hp Stays All cellsT rowT exT puT star mapT setG Sl nmapT setN)
open Pb (TxE dat nd_leT)
theorem iStr : (Try.prog.info? 9).map (fun i => (i.zero, i.size, i.bytes)) = some (some (.string ⟨#[]⟩), 1, 16) := by kernel_rfl
theorem bound_ids {P : Pl} {S : Rows} (hS : Ok S) (hr : ∀ k n, hasR S k n → (k, n) ∈ P) : S.length ≤ P.length ∧ ∀ r ∈ S, r.2.length ≤ P.length := by
  constructor
  · have := ids_sub hS.nd (m := P.map (·.1)) fun k hk => by
      obtain ⟨n, hn⟩ := (key_has hS k).1 hk
      exact List.mem_map.2 ⟨(k, n), hr _ _ hn, rfl⟩
    unfold keysL at this
    rwa [List.length_map, List.length_map] at this
  · intro r hrr
    have h1 : (r.2.map fun n => (r.1, n)).Nodup := List.pairwise_map.2 ((up_nd (hS.up r hrr)).imp fun hab e => hab (by injection e))
    have := ids_sub h1 (m := P) fun x hx => by
      obtain ⟨n, hn, rfl⟩ := List.mem_map.1 hx
      exact hr _ _ ⟨r.2, hrr, hn⟩
    rwa [List.length_map] at this
section
variable {o w w' wb : World} {l : List Th} {T N : Nat} {P : Pl} {k : ByteArray}
theorem rowS_form {v : Value} {ps : List ByteArray} (h : Hp o w (rowS v ps :: l)) : ∃ a c, v = .slice a ps.length c ∧ ps.length ≤ c ∧ c ≤ 9223372036854775807 ∧ (0 < ps.length → ∃ g, a = some ⟨g, 0, none⟩) := Hp.rowForm h
theorem rowS_at {ps : List ByteArray} {g c : Nat} (h : Hp o w (rowS (.slice (some ⟨g, 0, none⟩) ps.length c) ps :: l)) {j : Nat} (hj : j < ps.length) : w.cell? ⟨g, j, none⟩ = some (.string ps[j]) := by
  have := Hp.rowCell (size := 1) h (j := j) (by omega)
  rw [this]
  unfold strs
  simp [hj]
/-- append of one text, as an equation on its run. -/
theorem sRun {v : Value} {ps : List ByteArray} (h : Hp o w (rowS v ps :: l)) (hl : ps.length ≤ 1000000) (k : ByteArray) (ty : TypeId) :
    ∃ g c w', (Builtin.append_ #[44, 44] ty #[v, .slice (some ⟨w.heap.size, 0, none⟩) 1 1]).run Try.prog (w.alloc (.cells #[.string k] 9)).drew = .ok (.slice (some ⟨g, 0, none⟩) (ps ++ [k]).length c) w' ∧ Hp o w' (rowS (.slice (some ⟨g, 0, none⟩) (ps ++ [k]).length c) (ps ++ [k]) :: l) := by
  obtain ⟨i0, hi, hz0, hz1, hz2⟩ := info_parts iStr
  obtain ⟨a, c, w', h1, h2, -⟩ := Sp.rowRun h (wb := (w.alloc (.cells #[.string k] 9)).drew) (Sp.bbox (.cells #[.string k] 9)).drew 44 ty i0 _ 16 Try.underlying44 hi hz0 hz1 hz2 rfl (by decide) ⟨w.heap.size, 0, none⟩ 1 1 [.string k] rfl (fun j u hj => by
    rw [Addr.add_lit, Nat.zero_add]
    show (w.alloc (.cells #[.string k] 9)).cell? _ = _
    rw [World.cell?_alloc_new]
    simpa using hj) (fun u hu => by rw [List.mem_singleton.1 hu]; rfl) (by unfold maxLen; omega) (by omega)
  have e : (ps ++ [k]).length = ps.length + 1 := by simp
  have h3 : Hp o w' (rowS (.slice a (ps.length + 1) c) (ps ++ [k]) :: l) := by
    unfold rowS strs
    rw [e, List.map_append]
    exact h2
  rw [← e] at h1 h3
  obtain ⟨a', c', e2, -, -, hg⟩ := rowS_form h3
  injection e2 with e3 _ e4
  subst e3 e4
  obtain ⟨g, rfl⟩ := hg (by rw [e]; omega)
  exact ⟨g, c, w', h1, h3⟩
set_option maxHeartbeats 4000000 in
set_option maxRecDepth 100000 in
theorem pnew_calls (h : Hp o w l) (hw : Below w.heap.size w wb) :
    Calls Try.prog 7 #[] wb fun e w' => ∃ T, e = .returned (ptr T) ∧ Hp o w' (prefT T [] 0 :: l) := by
  have HN := Lib.hid (rk_new h hw)
  have HK : Hid (∀ (w1 : World) (A : Nat), Hp o w1 (recT A [] :: l) → Hp o (((w1.alloc (.map #[] 0)).alloc (.map #[] 0)).alloc (.cells #[ptr A, .map (some w1.heap.size), .map (some (w1.heap.size + 1))] 56)) (prefT (w1.heap.size + 1 + 1) [] 0 :: l)) := Lib.hid (fun w1 A h1 => by
    have h2 := h1.mapNew 9 elS
    have h3 := h2.nmapNew 3 elP
    have h4 := h3.cellsNew [ptr A, .map (some w1.heap.size), .map (some (w1.heap.size + 1))] 56
    have e1 : (w1.alloc (.map #[] 0)).heap.size = w1.heap.size + 1 := by simp
    have e2 : ((w1.alloc (.map #[] 0)).alloc (.map #[] 0)).heap.size = w1.heap.size + 1 + 1 := by simp
    rw [e2, e1] at h4
    have h5 := h4.starNil
    have h6 := rows_shut (L := []) (c := 0) (S := []) (N := 0) rfl Ok.nil (Nat.le_refl _) (h5.sel [4, 3, 0] rfl)
    have h7 := h6.starNil
    have h8 := of_shut (L := []) (m := 0) (c := 0) (F := []) (N := 0) rfl OkC.nil (Nat.le_refl _) (h7.sel [3, 0] rfl)
    exact pref_shut Rel.nil (fun _ h => (nomatch h)) (h8.sel [2, 1, 0] rfl))
  clear h hw
  have hmm := @run_makeMap Try.prog
  unfold ptr at *
  go_enter Try.func7, Try.ntmps7
  go_wp2_with fail
  refine HN.out.mono ?_; rintro en w1 ⟨A, rfl, h1⟩
  have H1 := Lib.hid (HK.out w1 A h1)
  clear h1 HN HK
  go_wp2_with fail
  go_ret
  exact ⟨_, rfl, H1.out⟩
set_option maxHeartbeats 8000000 in
set_option maxRecDepth 100000 in
theorem padd_calls (h : Hp o w (prefT T P N :: l)) (hw : Below w.heap.size w wb) (hk : k.size ≤ 140737488351232) (hP : P.length ≤ 900) (hN : N ≤ 1000000) (n : Int) (hn : (Lit.int .i64 n).wf = true) :
    Calls Try.prog 9 #[ptr T, .string k, .int .i64 n] wb fun e w' => e = .returned (.bool (!decide ((k, n) ∈ P))) ∧ Hp o w' (prefT T (addP k n P) (N + 1) :: l) := by
  obtain ⟨A, M, Mo, S, F, hR, hsz, h⟩ := pref_open (h.bel hw)
  clear hw
  have hmx : k.size ≤ maxLen := by unfold maxLen; omega
  obtain ⟨hb1, hb2⟩ := bound_ids hR.ok fun k n hh => (hR.r k n).2 hh
  have HTell := Lib.hid (tell_calls (h.pull 1 rfl) (Below.refl _ _) hk (by omega) (fun r hr => by have := hb2 r hr; omega) (by omega) n hn)
  rw [show decide (n ∈ idsR k S) = decide ((k, n) ∈ P) from decide_eq_decide.2 (hR.has k n)] at HTell
  have c0 := h.cell 0 rfl
  have c1 := h.cell 1 rfl
  have hsz2 : ∀ p ∈ addP k n P, p.1.size ≤ 140737488351232 := fun p hp => by
    rcases mem_addP.1 hp with hp | e
    · exact hsz p hp
    · rw [e]; exact hk
  by_cases hin : (k, n) ∈ P
  · rw [decide_eq_true hin] at HTell ⊢
    have HF : Hid (∀ W, Hp o W (rowsT A M (addR k n S) (N + 1) :: cellsT T [ptr A, .map (some M), .map (some Mo)] :: ofT Mo F N :: l) → Hp o W (prefT T (addP k n P) (N + 1) :: l)) := Lib.hid (fun W hh => by
      have hR2 := hR.add hmx hn hR.oc fun k' n' => ⟨.inl, fun h => h.elim id fun ⟨e1, e2⟩ => by rw [e1, e2]; exact (hR.c k n).1 hin⟩
      have h3 := of_more (hh.pull 2 rfl) (Nat.le_succ N)
      exact pref_shut hR2 hsz2 (h3.sel [2, 1, 0] rfl))
    clear h hR hsz hsz2 hb1 hb2 hin
    unfold rv ptr at *
    go_enter Try.func9, Try.ntmps9
    go_wp2_with fail
    refine HTell.out.mono ?_; rintro en w1 ⟨rfl, h1⟩
    have H1 := Lib.hid (HF.out _ h1)
    clear h1 HTell
    go_wp2_with fail
    go_ret
    exact ⟨rfl, H1.out⟩
  · clear HTell
    have key : ∃ (v : Value) (ps : List ByteArray) (m m2 cm : Nat) (G : Int → Option Sl) (G2 : Nat → Nat → Int → Option Sl) (lx : List Th), ps.length ≤ 1000 ∧ cm ≤ N ∧ Hp o wb (rowsT A M S N :: cellsT T [ptr A, .map (some M), .map (some Mo)] :: rowS v ps :: nmapT 3 elP Mo m cm G :: lx) ∧ elP.enc ((G n).getD elP.zero) = v ∧ (∀ g c, setN G n (some (⟨some ⟨g, 0, none⟩, (ps ++ [k]).length, c⟩ : Sl)) = G2 g c) ∧ (m + if (G n).isSome = true then 0 else 1) = m2 ∧ ∀ W g c, Hp o W (rowS (.slice (some ⟨g, 0, none⟩) (ps ++ [k]).length c) (ps ++ [k]) :: nmapT 3 elP Mo m2 (cm + 1) (G2 g c) :: rowsT A M (addR k n S) (N + 1) :: cellsT T [ptr A, .map (some M), .map (some Mo)] :: lx) → Hp o W (prefT T (addP k n P) (N + 1) :: l) := by
      by_cases hk2 : n ∈ keysN F
      · obtain ⟨FA, ps, FB, rfl⟩ := keyN_split hk2
        have hmid := hR.oc.mid
        have hps : (n, ps) ∈ FA ++ (n, ps) :: FB := List.mem_append.2 (.inr (List.mem_cons_self ..))
        have hnd : (ps ++ [k]).Nodup := by
          rw [List.nodup_append]
          refine ⟨hR.oc.up _ hps, by simp, fun a ha b hb e => ?_⟩
          rw [List.mem_singleton] at hb
          exact hin ((hR.c k n).2 ⟨ps, hps, by rw [← hb, ← e]; exact ha⟩)
        have hpl : ps.length ≤ P.length := by have := hR.of_le n; rwa [ofC_mid hmid] at this
        have hR2 := hR.add hmx hn (hR.oc.put hnd) fun k' n' => hasC_put k k' n'
        obtain ⟨LA, LB, g, c, m, cm, hA, hB, hc, h1⟩ := of_mid (h.pull 2 rfl)
        have hms := mid_slF hmid hA hB
        refine ⟨_, ps, m, m, cm, _, fun g' c' => lookN (slF LA ++ (n, ⟨some ⟨g', 0, none⟩, (ps ++ [k]).length, c'⟩) :: slF LB), star ((LA ++ LB).map rowC) :: l, by omega, hc, h1.sel [4, 3, 0, 1] rfl, ?_, fun g' c' => setN_mid hms _ _, ?_, fun W g' c' hh => ?_⟩
        · rw [lookN_mid hms]; rfl
        · rw [lookN_mid hms]; rfl
        · have h2 := of_back (N := N + 1) hA hB (by omega) (hR.oc.put hnd) (hh.sel [0, 1, 4] rfl)
          exact pref_shut hR2 hsz2 (h2.sel [2, 1, 0] rfl)
      · obtain ⟨L, m, cm, h1, hok, hc, h2⟩ := of_open (h.pull 2 rfl)
        have hkl : n ∉ keysN (slF L) := by rw [plainF_keys, h1]; exact hk2
        have hR2 := hR.add hmx hn (hR.oc.new hk2 (ps := [k]) (by simp) hn) fun k' n' => hasC_new k k' n'
        refine ⟨.slice none 0 0, [], m, m + 1, cm, _, fun g' c' => lookN (slF L ++ [(n, ⟨some ⟨g', 0, none⟩, ([] ++ [k] : List ByteArray).length, c'⟩)]), star (L.map rowC) :: l, by simp, hc, (h2.rowNil 9 1).sel [4, 3, 0, 1] rfl, ?_, fun g' c' => setN_new hkl _, ?_, fun W g' c' hh => ?_⟩
        · rw [lookN_none hkl]; rfl
        · rw [lookN_none hkl]; rfl
        · have h2 := of_back (N := N + 1) (LA := L) (LB := []) (A := F) (B := []) (ps := [k]) (n := n) (g := g') (c := c') (m := m + 1) (cm := cm + 1) h1 rfl (by omega) (hR.oc.new hk2 (by simp) hn) (by
            rw [List.append_nil]
            exact hh.sel [0, 1, 4] rfl)
          exact pref_shut hR2 hsz2 (h2.sel [2, 1, 0] rfl)
    obtain ⟨v, ps, m, m2, cm, G, G2, lx, hpl, hcm, h1, hv, hG2, hm2, hF⟩ := key
    have HTell := Lib.hid (tell_calls h1 (Below.refl _ _) hk (by omega) (fun r hr => by have := hb2 r hr; omega) (by omega) n hn)
    rw [show decide (n ∈ idsR k S) = decide ((k, n) ∈ P) from decide_eq_decide.2 (hR.has k n), decide_eq_false hin] at HTell
    rw [decide_eq_false hin]
    have HF := Lib.hid hF
    have HLk : Hid (∀ W ll, Hp o W (nmapT 3 elP Mo m cm G :: ll) → (Instr.lookup 54 (.map (some Mo)) (.int .i64 n) false).run Try.prog W = .ok v W) := Lib.hid (fun W ll hh => by
      have := hh.nmapLook (T := 54) Try.underlying3 Try.underlying54 n hn
      rw [hv] at this
      exact this)
    have HPut : Hid (∀ (W : World) (ll : List Th) (g' c' : Nat), Hp o W (nmapT 3 elP Mo m cm G :: ll) → ∃ w', (Instr.mapUpdate 54 (.map (some Mo)) (.int .i64 n) (.slice (some ⟨g', 0, none⟩) (ps ++ [k]).length c')).run Try.prog W = .ok () w' ∧ Hp o w' (nmapT 3 elP Mo m2 (cm + 1) (G2 g' c') :: ll)) := Lib.hid (fun W ll g' c' hh => by
      obtain ⟨w9, h1, h2⟩ := hh.nmapPutRun (T := 54) Try.underlying3 Try.underlying54 n hn ⟨some ⟨g', 0, none⟩, (ps ++ [k]).length, c'⟩ True.intro (by unfold maxLen; omega) m2 hm2
      rw [hG2] at h2
      exact ⟨w9, h1, h2⟩)
    have HC0 : Hid (wb.cell? ⟨T, 0, none⟩ = some (ptr A)) := Lib.hid c0
    have HC1 : Hid (wb.cell? ⟨T, 1, none⟩ = some (.map (some M))) := Lib.hid c1
    clear h hR hsz hsz2 hb1 hb2 hin h1 hv hG2 hm2 hF c0 c1
    have HSR : Hid (∀ W ll, Hp o W (rowS v ps :: ll) → ∃ g c w', (Builtin.append_ #[44, 44] 44 #[v, .slice (some ⟨W.heap.size, 0, none⟩) 1 1]).run Try.prog (W.alloc (.cells #[.string k] 9)).drew = .ok (.slice (some ⟨g, 0, none⟩) (ps ++ [k]).length c) w' ∧ Hp o w' (rowS (.slice (some ⟨g, 0, none⟩) (ps ++ [k]).length c) (ps ++ [k]) :: ll)) := Lib.hid (fun W ll hh => sRun hh (by omega) k _)
    generalize ps ++ [k] = D at *
    unfold rv ptr at *
    go_enter Try.func9, Try.ntmps9
    have c0 := HC0.out
    have c1 := HC1.out
    go_wp2_with fail
    refine HTell.out.mono ?_; rintro en w1 ⟨rfl, h1⟩
    have H1 : Hid (Hp o w1 (rowsT A M (addR k n S) (N + 1) :: cellsT T [.pointer (some ⟨A, 0, none⟩), .map (some M), .map (some Mo)] :: rowS v ps :: nmapT 3 elP Mo m cm G :: lx)) := Lib.hid h1
    clear h1 HTell c0 c1 HC0 HC1
    go_wp2_with fail
    have S1 : Hid (w1.drew.cell? ⟨T, 2, none⟩ = some (.map (some Mo))) := Lib.hid (((H1.out.bel (Below.refl _ _).drew).pull 1 rfl).cell 2 rfl)
    have S0 : Hid (∀ O, (w1.alloc O).drew.cell? ⟨T, 2, none⟩ = some (.map (some Mo))) := Lib.hid (fun O => ((H1.out.bel (Sp.bbox O).drew).pull 1 rfl).cell 2 rfl)
    have l1 := HLk.out _ _ ((H1.out.bel (Below.refl _ _).drew).pull 3 rfl)
    have l2 := HLk.out _ _ ((H1.out.bel (Sp.bbox (.cells #[.string k] 9)).drew).pull 3 rfl)
    obtain ⟨g7, c7, w7, hr7, h7⟩ := HSR.out _ _ (H1.out.pull 2 rfl)
    have S2 : Hid (w7.cell? ⟨T, 2, none⟩ = some (.map (some Mo))) := Lib.hid ((h7.pull 2 rfl).cell 2 rfl)
    obtain ⟨w9, hr9, h9⟩ := HPut.out _ _ g7 c7 (h7.pull 3 rfl)
    have S3 : Hid (w9.cell? ⟨T, 2, none⟩ = some (.map (some Mo))) := Lib.hid ((h9.pull 3 rfl).cell 2 rfl)
    have H9 := Lib.hid h9
    clear h9 h7
    go_region_held3 (fun W : World => W.cell? ⟨T, 2, none⟩ = some (.map (some Mo)))
      (first | exact S1.out | exact S0.out _ | exact S2.out | exact S3.out)
      (first
        | (refine Sp.step_app (o := ⟨some 29, _, _, _, _, _⟩) rfl (.tmp 26) (.tmp 28) rfl ?_ ?_ hr7 ?_
           · first | rfl | simp [Act.eval]
           · first | rfl | simp [Act.eval]))
    all_goals (
      have H9 : Hid (Hp o w9 (nmapT 3 elP Mo m2 (cm + 1) (G2 g7 c7) :: rowS (.slice (some ⟨g7, 0, none⟩) D.length c7) D :: rowsT A M (addR k n S) (N + 1) :: cellsT T [.pointer (some ⟨A, 0, none⟩), .map (some M), .map (some Mo)] :: lx)) := H9
      clear S1 S2 S3 S0 H1 hr9 hr7 l1 l2
      go_wp2_with fail
      go_ret
      exact ⟨rfl, HF.out _ _ _ (H9.out.sel [1, 0] rfl)⟩)
end
end Go.Proofs.Ytnmncjeplfkdpaa.Qa
/- Package prefix: Len, Nodes, Drop. Conditions: bounds. -/
namespace Go.Proofs.Ytnmncjeplfkdpaa.Qa
set_option linter.unusedVariables false
set_option linter.unusedSimpArgs false
open Go.ChangeShapes Go.WideShapes Go.ChangeAt Go.RowKit Go.Maps Go.WideMaps
open Ka
open Sp (Th Hp Stays All cellsT rowT exT puT star mapT setG Sl nmapT setN)
open Pb (TxE dat nd_leT)
theorem mem_keys_fst {P : Pl} {S : Rows} {F : Cl} (h : Rel P S F) (k : ByteArray) : k ∈ keysL S ↔ ∃ n, (k, n) ∈ P := by
  rw [key_has h.ok]
  exact ⟨fun ⟨n, hn⟩ => ⟨n, (h.r k n).2 hn⟩, fun ⟨n, hn⟩ => ⟨n, (h.r k n).1 hn⟩⟩
theorem dat_mem {K K' : List ByteArray} (h : ∀ k, k ∈ K ↔ k ∈ K') (X : Pb.T) : X ∈ dat K ↔ X ∈ dat K' := by
  unfold dat
  rw [List.mem_map, List.mem_map]
  exact ⟨fun ⟨k, hk, e⟩ => ⟨k, (h k).1 hk, e⟩, fun ⟨k, hk, e⟩ => ⟨k, (h k).2 hk, e⟩⟩
/-- Clients but one. -/
def takeC (n : Int) (F : Cl) : Cl := F.filter fun r => !decide (r.1 = n)
theorem takeC_none {F : Cl} {n : Int} (h : n ∉ keysN F) : takeC n F = F := List.filter_eq_self.2 fun r hr => by
  have : r.1 ≠ n := fun e => h (e ▸ List.mem_map_of_mem hr)
  simp [this]
theorem takeC_mid {A B : Cl} {n : Int} {l : List ByteArray} (h : MidN n A B) : takeC n (A ++ (n, l) :: B) = A ++ B := by
  have h1 := takeC_none h.a
  have h2 := takeC_none h.b
  unfold takeC at *
  rw [List.filter_append, List.filter_cons_of_neg (by simp), h1, h2]
theorem takeC_has {F : Cl} (hF : OkC F) (n : Int) (k : ByteArray) (n' : Int) : hasC (takeC n F) k n' ↔ hasC F k n' ∧ n' ≠ n := by
  by_cases hk : n ∈ keysN F
  · obtain ⟨A, ps, B, rfl⟩ := keyN_split hk
    rw [takeC_mid hF.mid]
    exact hasC_del hF.mid k n'
  · rw [takeC_none hk]
    exact ⟨fun h => ⟨h, fun e => hk (e ▸ hasC_key h)⟩, fun h => h.1⟩
theorem takeC_ok {F : Cl} (hF : OkC F) (n : Int) : OkC (takeC n F) := hF.sub List.filter_sublist
/-- Half of the beginnings of a client that leaves are gone. -/
structure Part (P : Pl) (n : Int) (ps : List ByteArray) (i : Nat) (S : Rows) : Prop where
  ok : Ok S
  r : ∀ k m, hasR S k m ↔ (k, m) ∈ P ∧ ¬ (m = n ∧ k ∈ ps.take i)
theorem Part.row {P : Pl} {n : Int} {ps : List ByteArray} {i : Nat} {S : Rows} (h : Part P n ps i S) (hn : ps.Nodup) (hi : i < ps.length) (hp : (ps[i], n) ∈ P) : ∃ A ids B, S = A ++ (ps[i], ids) :: B ∧ n ∈ ids := by
  have hh : hasR S ps[i] n := (h.r _ _).2 ⟨hp, fun e => by
    obtain ⟨j, hj, ej⟩ := List.mem_iff_getElem.1 e.2
    rw [List.length_take] at hj
    rw [List.getElem_take] at ej
    have := List.pairwise_iff_getElem.1 hn j i (by omega) hi (by omega)
    exact this ej⟩
  obtain ⟨ids, h1, h2⟩ := hh
  obtain ⟨A, B, e⟩ := List.append_of_mem h1
  exact ⟨A, ids, B, e, h2⟩
theorem Part.next {P : Pl} {n : Int} {ps : List ByteArray} {i : Nat} {A B : Rows} {k : ByteArray} {ids : List Int} (h : Part P n ps i (A ++ (k, ids) :: B)) (hi : i < ps.length) (hk : k = ps[i]) (hok : Ok (A ++ cutR n (k, ids) ++ B)) : Part P n ps (i + 1) (A ++ cutR n (k, ids) ++ B) := by
  refine ⟨hok, fun k' m => ?_⟩
  rw [hasR_cut h.ok.mid, h.r, ← List.take_append_getElem hi, List.mem_append, List.mem_singleton, ← hk]
  constructor
  · rintro ⟨⟨h1, h2⟩, h3⟩
    exact ⟨h1, fun ⟨e1, e2⟩ => e2.elim (fun e => h2 ⟨e1, e⟩) (fun e => h3 ⟨e, e1⟩)⟩
  · rintro ⟨h1, h2⟩
    exact ⟨⟨h1, fun e => h2 ⟨e.1, .inl e.2⟩⟩, fun e => h2 ⟨e.2, .inr e.1⟩⟩
section
variable {o w w' wb : World} {l : List Th} {T N : Nat} {P : Pl} {k : ByteArray}
set_option maxHeartbeats 4000000 in
set_option maxRecDepth 100000 in
theorem plen_calls (h : Hp o w (prefT T P N :: l)) (hw : Below w.heap.size w wb) {K : List ByteArray} (hK : K.Nodup) (hm : ∀ k, k ∈ K ↔ ∃ n, (k, n) ∈ P) :
    Calls Try.prog 13 #[ptr T] wb fun e w' => e = .returned (.int .i64 K.length) ∧ wb = w' := by
  obtain ⟨A, M, Mo, S, F, hR, hsz, h⟩ := pref_open (h.bel hw)
  have c0 := h.cell 0 rfl
  have e : (keysL S).length = K.length := Nat.le_antisymm (ids_sub hR.ok.nd fun x hx => (hm x).2 ((mem_keys_fst hR x).1 hx)) (ids_sub hK fun x hx => (mem_keys_fst hR x).2 ((hm x).1 hx))
  obtain ⟨L, c, -, -, -, h1⟩ := rows_open (h.pull 1 rfl)
  have HL := Lib.hid (rk_len h1 (Below.refl _ _) hR.ok.nd)
  rw [e] at HL
  clear h h1 hw e hm hK hR hsz
  generalize K.length = n at *
  unfold ptr at *
  go_enter Try.func13, Try.ntmps13
  go_wp2_with fail
  refine HL.out.mono ?_; rintro en w1 ⟨rfl, rfl⟩
  go_wp2_with fail
  go_ret
  exact ⟨rfl, rfl⟩
set_option maxHeartbeats 4000000 in
set_option maxRecDepth 100000 in
theorem pnodes_calls (h : Hp o w (prefT T P N :: l)) (hw : Below w.heap.size w wb) :
    ∃ X, TxE X (dat (P.map (·.1))) ∧ Calls Try.prog 14 #[ptr T] wb fun e w' => e = .returned (.int .i64 X.length) ∧ wb = w' := by
  obtain ⟨A, M, Mo, S, F, hR, hsz, h⟩ := pref_open (h.bel hw)
  have c0 := h.cell 0 rfl
  obtain ⟨L, c, -, -, -, h1⟩ := rows_open (h.pull 1 rfl)
  obtain ⟨X, hX, hc⟩ := rk_nodes h1 (Below.refl _ _)
  have hd : ∀ Y, Y ∈ dat (keysL S) ↔ Y ∈ dat (P.map (·.1)) := dat_mem fun k => by
    rw [mem_keys_fst hR, List.mem_map]
    exact ⟨fun ⟨n, hn⟩ => ⟨(k, n), hn, rfl⟩, fun ⟨p, hp, e⟩ => ⟨p.2, by rw [← e]; exact hp⟩⟩
  refine ⟨X, ⟨hX.nd, fun p => by rw [hX.mem, hd]; simp only [hd]⟩, ?_⟩
  have HL := Lib.hid hc
  clear h h1 hw hR hsz hX hd hc
  generalize X.length = n at *
  unfold ptr at *
  go_enter Try.func14, Try.ntmps14
  go_wp2_with fail
  refine HL.out.mono ?_; rintro en w1 ⟨rfl, rfl⟩
  go_wp2_with fail
  go_ret
  exact ⟨rfl, rfl⟩
set_option maxHeartbeats 8000000 in
set_option maxRecDepth 100000 in
theorem pdrop_calls (h : Hp o w (prefT T P N :: l)) (hw : Below w.heap.size w wb) (hP : P.length ≤ 900) (hN : N ≤ 1000000) (n : Int) (hn : (Lit.int .i64 n).wf = true) :
    Calls Try.prog 11 #[ptr T, .int .i64 n] wb fun e w' => e = .returned (.int .i64 ((P.length - (dropP n P).length : Nat) : Int)) ∧ Hp o w' (prefT T (dropP n P) (N + 1000) :: l) := by
  obtain ⟨A, M, Mo, S, F, hR, hsz, h⟩ := pref_open (h.bel hw)
  clear hw
  have hps := hR.of_len n
  have hpl := hR.of_le n
  have HNd := Lib.hid (ofC_nodup hR.oc n)
  have HHas : Hid (∀ k, k ∈ ofC n F ↔ (k, n) ∈ P) := Lib.hid (fun k => by rw [ofC_mem hR.oc.nd, hR.c])
  have HSz : Hid (∀ k ∈ ofC n F, k.size ≤ 140737488351232) := Lib.hid (fun k hk => hsz (k, n) ((HHas.out k).1 hk))
  have HP0 : Hid (Part P n (ofC n F) 0 S) := Lib.hid ⟨hR.ok, fun k m => by rw [← hR.r, List.take_zero]; simp⟩
  have HEnd : Hid (∀ S', Part P n (ofC n F) (ofC n F).length S' → Rel (dropP n P) S' (takeC n F)) := Lib.hid (fun S' hp => by
    refine ⟨dropP_nd hR.nd, hp.ok, takeC_ok hR.oc n, fun k m => ?_, fun k m => ?_⟩
    · rw [mem_dropP, hp.r, List.take_length]
      constructor
      · rintro ⟨h1, h2⟩; exact ⟨h1, fun e => h2 e.1⟩
      · rintro ⟨h1, h2⟩
        refine ⟨h1, fun e => h2 ⟨e, ?_⟩⟩
        have e : m = n := e
        rw [e] at h1
        exact (HHas.out k).2 h1
    · rw [mem_dropP, takeC_has hR.oc, ← hR.c])
  have HSz2 : Hid (∀ p ∈ dropP n P, p.1.size ≤ 140737488351232) := Lib.hid (fun p hp => hsz p (mem_dropP.1 hp).1)
  have key : ∃ (v : Value) (m m2 cm : Nat) (G : Int → Option Sl) (lx : List Th), Hp o wb (nmapT 3 elP Mo m cm G :: rowS v (ofC n F) :: rowsT A M S N :: cellsT T [ptr A, .map (some M), .map (some Mo)] :: lx) ∧ elP.enc ((G n).getD elP.zero) = v ∧ (m - if (G n).isSome = true then 1 else 0) = m2 ∧ ∀ W S' i, i ≤ 1000 → Hp o W (nmapT 3 elP Mo m2 cm (setN G n none) :: rowS v (ofC n F) :: rowsT A M S' (N + i) :: cellsT T [ptr A, .map (some M), .map (some Mo)] :: lx) → Rel (dropP n P) S' (takeC n F) → Hp o W (prefT T (dropP n P) (N + 1000) :: l) := by
    by_cases hk2 : n ∈ keysN F
    · obtain ⟨FA, ps, FB, rfl⟩ := keyN_split hk2
      have hmid := hR.oc.mid
      have hok := takeC_ok hR.oc n
      rw [takeC_mid hmid] at hok ⊢
      rw [ofC_mid hmid]
      obtain ⟨LA, LB, g, c, m, cm, hA, hB, hc, h1⟩ := of_mid (h.pull 2 rfl)
      have hms := mid_slF hmid hA hB
      refine ⟨_, m, _, cm, _, star ((LA ++ LB).map rowC) :: l, h1.sel [1, 0, 4, 3] rfl, ?_, rfl, fun W S' i hi hh hr => ?_⟩
      · rw [lookN_mid hms]; rfl
      · rw [setN_del hms] at hh
        have h2 := of_gone (N := N + 1000) hA hB (by omega) hok (hh.sel [0, 4] rfl)
        have h3 := rows_more ((h2.dropAt 1 rfl).pull 1 rfl) (show N + i ≤ N + 1000 by omega)
        exact pref_shut hr HSz2.out (h3.sel [2, 0, 1] rfl)
    · obtain ⟨L, m, cm, h1, hok, hc, h2⟩ := of_open (h.pull 2 rfl)
      have hkl : n ∉ keysN (slF L) := by rw [plainF_keys, h1]; exact hk2
      rw [takeC_none hk2, ofC_none hk2]
      refine ⟨.slice none 0 0, m, _, cm, _, star (L.map rowC) :: l, (h2.rowNil 9 1).sel [1, 0, 4, 3] rfl, ?_, rfl, fun W S' i hi hh hr => ?_⟩
      · rw [lookN_none hkl]; rfl
      · rw [setN_none hkl] at hh
        have h2 := of_shut (N := N + 1000) h1 hok (by omega) (hh.sel [0, 4] rfl)
        have h3 := rows_more ((h2.dropAt 1 rfl).pull 1 rfl) (show N + i ≤ N + 1000 by omega)
        exact pref_shut hr HSz2.out (h3.sel [2, 0, 1] rfl)
  obtain ⟨v, m, m2, cm, G, lx, h1, hv, hm2, hF⟩ := key
  have HF : Hid (∀ W S' i, i ≤ 1000 → Hp o W (nmapT 3 elP Mo m2 cm (setN G n none) :: rowS v (ofC n F) :: rowsT A M S' (N + i) :: cellsT T [ptr A, .map (some M), .map (some Mo)] :: lx) → Part P n (ofC n F) (ofC n F).length S' → Hp o W (prefT T (dropP n P) (N + 1000) :: l)) := Lib.hid (fun W S' i hi hh hp => hF W S' i hi hh (HEnd.out S' hp))
  have hlk := h1.nmapLook (T := 54) Try.underlying3 Try.underlying54 n hn
  rw [hv] at hlk
  obtain ⟨a, c, rfl, hlc, hcm, hag⟩ := rowS_form (h1.pull 1 rfl)
  have HAg := Lib.hid hag
  have HM2 := Lib.hid hm2
  have HHn := Lib.hid hn
  have H0 := Lib.hid h1
  rw [← hps]
  clear h hR hsz h1 hv hF hag hm2 hps HEnd HSz2
  have HBn : Hid (∀ i S', Part P n (ofC n F) i S' → S'.length ≤ 900 ∧ ∀ r ∈ S', r.2.length ≤ 900) := Lib.hid (fun i S' hp => by
    obtain ⟨g1, g2⟩ := bound_ids hp.ok fun k m hh => ((hp.r k m).1 hh).1
    exact ⟨by omega, fun r hr => by have := g2 r hr; omega⟩)
  have HSt : Hid (∀ (W : World) (S' : Rows) (i : Nat) (ll : List Th) (hi : i < (ofC n F).length), Part P n (ofC n F) i S' → Hp o W (rowsT A M S' (N + i) :: ll) → Calls Try.prog 24 #[rv A M, .string (ofC n F)[i], .int .i64 n] W fun e w' => ∃ S2, e = .returned (.tuple #[]) ∧ Part P n (ofC n F) (i + 1) S2 ∧ Hp o w' (rowsT A M S2 (N + (i + 1)) :: ll)) := Lib.hid (fun W S' i ll hi hp hh => by
    have hin := (HHas.out _).1 (List.getElem_mem hi)
    obtain ⟨RA, ids, RB, rfl, hnn⟩ := hp.row HNd.out hi hin
    obtain ⟨b1, b2⟩ := HBn.out _ _ hp
    refine (part_calls hh (Below.refl _ _) (HSz.out _ (List.getElem_mem hi)) (by have := b2 ((ofC n F)[i], ids) (List.mem_append.2 (.inr (List.mem_cons_self ..))); have h9 : ids.length ≤ 900 := this; omega) (by omega) (by omega) n hnn).mono ?_
    rintro e w' ⟨rfl, h9⟩
    exact ⟨_, rfl, hp.next hi rfl (rows_ok h9), h9⟩)
  clear HBn HHas HSz HNd
  obtain ⟨G2, hG2⟩ : ∃ G2, setN G n none = G2 := ⟨_, rfl⟩
  rw [hG2] at HF
  have HG2 := Lib.hid hG2
  clear hG2
  generalize ofC n F = ps at *
  unfold rv ptr at *
  have hpm : ps.length ≤ 900 := by omega
  have c2 := (H0.out.pull 3 rfl).cell 2 rfl
  go_enter Try.func11, Try.ntmps11
  go_wp2_with (at_delete; refine Sp.Hp.nmapDel H0.out rfl _ _ 54 _ rfl rfl Try.underlying3 Try.underlying54 rfl n rfl HHn.out m2 HM2.out ?_)
  intro w1 h1
  rw [HG2.out] at h1
  have H1 : Hid (Hp o w1 (nmapT 3 elP Mo m2 cm G2 :: rowS (.slice a ps.length c) ps :: rowsT A M S (N + 0) :: cellsT T [.pointer (some ⟨A, 0, none⟩), .map (some M), .map (some Mo)] :: lx)) := Lib.hid h1
  clear h1 hlk c2 H0
  go_wp2_with fail
  go_loopg [7, 21] (ps.length + 1) (fun g _ vi wr => ∃ (i : Nat) (S' : Rows), vi = .int .i64 i ∧ i ≤ ps.length ∧ ps.length - i ≤ g ∧ Hid (Part P n ps i S') ∧ Hid (Hp o wr (nmapT 3 elP Mo m2 cm G2 :: rowS (.slice a ps.length c) ps :: rowsT A M S' (N + i) :: cellsT T [.pointer (some ⟨A, 0, none⟩), .map (some M), .map (some Mo)] :: lx)))
  case atStart => exact ⟨0, S, rfl, by omega, by omega, HP0, H1⟩
  case round =>
    obtain ⟨i, S', rfl, hi, hg, HPt, HH⟩ := hrel
    clear H1 HP0
    by_cases hil : i < ps.length
    case pos =>
      have hic : (i : Int) < (ps.length : Int) := by omega
      obtain ⟨g0, rfl⟩ := HAg.out (by omega)
      have d0 := rowS_at (HH.out.pull 1 rfl) hil
      have e0 := (HH.out.pull 3 rfl).cell 0 rfl
      have e1 := (HH.out.pull 3 rfl).cell 1 rfl
      have HC := Lib.hid (HSt.out wr S' i _ hil HPt.out (HH.out.pull 2 rfl))
      generalize ps[i] = k at *
      go_wp2_with fail
      refine HC.out.mono ?_; rintro en w2 ⟨S2, rfl, hp2, h2⟩
      have HP2 := Lib.hid hp2
      have H2 : Hid (Hp o w2 (rowsT A M S2 (N + (i + 1)) :: nmapT 3 elP Mo m2 cm G2 :: rowS (.slice (some ⟨g0, 0, none⟩) ps.length c) ps :: cellsT T [.pointer (some ⟨A, 0, none⟩), .map (some M), .map (some Mo)] :: lx)) := Lib.hid h2
      clear hp2 h2 HC d0 e0 e1 HH HPt
      go_wp2_with fail
      go_roundg (gk - 1)
      case measure => omega
      case rel => exact ⟨i + 1, S2, by go_num, by omega, by omega, HP2, Lib.hid (H2.out.sel [1, 2, 0] rfl)⟩
    case neg =>
      have hic : ¬ (i : Int) < (ps.length : Int) := by omega
      obtain rfl : i = ps.length := by omega
      go_wp2_with fail
      go_ret
      exact ⟨rfl, HF.out _ _ _ (by omega) HH.out HPt.out⟩
end
end Go.Proofs.Ytnmncjeplfkdpaa.Qa
