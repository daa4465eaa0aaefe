/- The checking package's add once more (what lay before it stands); plain: which texts its Nodes finds. No condition but bounds. -/
import Derived.Test.YtnmncjeplfkdpaaPaB
import Derived.Test.YtnmncjeplfkdpaaPbA
import Derived.BigQuiet
namespace Go.Proofs.Ytnmncjeplfkdpaa.Pb
set_option linter.unusedVariables false
set_option linter.unusedSimpArgs false
open Go.ChangeShapes Go.WideShapes Go.ChangeAt Go.RowKit
open Pa (RowT InT addT)
set_option maxHeartbeats 4000000 in
set_option maxRecDepth 100000 in
theorem refAdd_below (wb w : World) (v : Value) (l : List ByteArray) (hn : l.length ≤ 1000000) (h0 : 0 < l.length) (hR : RowT wb w v l) (s : ByteArray) :
    Calls Try.prog 28 #[v, .string s] w fun e w' => ∃ v', e = .returned v' ∧ RowT wb w' v' (addT l s) ∧ Below w.heap.size w w' := by
  have HR := Lib.hid hR
  obtain ⟨a, c, rfl, hlc, hcc, hI⟩ := hR.slice
  obtain ⟨g, rfl, -⟩ := hI 0 h0
  have HI := Lib.hid hI
  clear hI hR h0
  go_enter Try.func28, Try.ntmps28
  go_wp2_with fail
  go_loopg [6, 9] (l.length + 1) (fun g _ vi wr => ∃ j : Nat, vi = .int .i64 j ∧ j ≤ l.length ∧ l.length - j ≤ g ∧ Hid (Below w.heap.size w wr) ∧ Hid (∀ y ∈ l.take j, (y.toList == s.toList) = false))
  case atStart => exact ⟨0, rfl, by omega, by omega, Lib.hid (Below.refl _ _), Lib.hid (fun y hy => by cases hy)⟩
  case round =>
    obtain ⟨j, rfl, hj, hg, HB, HN⟩ := hrel
    by_cases hjl : j < l.length
    case neg =>
      obtain rfl : j = l.length := by omega
      have HZ := Lib.hid (Pa.addT_none HN.out)
      have HIr := Lib.hid ((HI.out.below HB.out).below (bbox (.cells #[] 9)))
      go_wp2_with (at_builtin; refine Pa.str_push (Pa.rowT_made wr) rfl _ _ rfl rfl l _ rfl rfl HIr.out ?hl ?hr ?_)
      case hl => simp
      case hr => omega
      intro v3 w3 hR3
      have HR3 := Lib.hid (hR3.below (bbox (.cells #[.string s] 9)))
      obtain ⟨pa3, pc3, rfl, -, -, -⟩ := hR3.slice
      clear hR3
      go_wp2_with (at_builtin; refine Pa.str_push HR3.out rfl _ _ rfl rfl [s] _ rfl rfl (Pa.inT_new _ _ _) ?hl ?hr ?_)
      case hl => omega
      case hr => simp
      intro v4 w4 hR4
      have HR4 := Lib.hid hR4
      clear hR4
      go_wp2_with fail
      go_ret
      exact ⟨_, rfl, by rw [HZ.out]; exact HR4.out.over (HR.out.bel.trans (HB.out.mono HR.out.bel.size)), bstep HB.out HR4.out.bel⟩
    case pos =>
      obtain ⟨g', hge, h1⟩ := (HI.out.below HB.out) j hjl
      cases hge
      cases he : (l[j].toList == s.toList)
      case true =>
        have HZ := Lib.hid (Pa.addT_some hjl he)
        generalize l[j] = x at *
        go_wp2_with fail
        go_ret
        exact ⟨_, rfl, by rw [HZ.out]; exact HR.out.below HB.out, HB.out⟩
      case false =>
        have HN2 : Hid (∀ y ∈ l.take (j + 1), (y.toList == s.toList) = false) := Lib.hid (by
          intro y hy
          rw [← List.take_append_getElem hjl] at hy
          rcases List.mem_append.1 hy with h | h
          · exact HN.out y h
          · rw [List.mem_singleton.1 h, he])
        generalize l[j] = x at *
        go_wp2_with fail
        go_roundg (gk - 1)
        case measure => omega
        case rel => exact ⟨j + 1, by go_num, by omega, by omega, HB, HN2⟩
/-- Texts without doubles, and which. -/
structure SX (X : List ByteArray) (S : T → Prop) : Prop where
  nd : (X.map (·.data.toList)).Nodup
  mem : ∀ p, p ∈ X.map (·.data.toList) ↔ S p
theorem bt_eq {x y : ByteArray} (h : x.data.toList = y.data.toList) : x = y := by
  cases x; cases y
  congr 1
  exact Array.toList_inj.1 h
theorem SX.iff {X : List ByteArray} {S S' : T → Prop} (h : SX X S) (k : ∀ p, S p ↔ S' p) : SX X S' := ⟨h.nd, fun p => (h.mem p).trans (k p)⟩
theorem SX.add {X : List ByteArray} {S : T → Prop} (h : SX X S) (s : ByteArray) : SX (addT X s) (fun p => S p ∨ p = s.data.toList) := by
  unfold addT
  by_cases hs : X.any (fun y => y.toList == s.toList) = true
  · rw [if_pos hs]
    obtain ⟨y, hy, he⟩ := List.any_eq_true.1 hs
    have he : y.data.toList = s.data.toList := by
      have := eq_of_beq he
      rwa [ByteArray.toList_eq, ByteArray.toList_eq] at this
    refine h.iff fun p => ⟨.inl, ?_⟩
    rintro (hp | rfl)
    · exact hp
    · rw [← he]
      exact (h.mem _).1 (List.mem_map_of_mem hy)
  · rw [if_neg hs]
    have hne : ∀ y ∈ X, y.data.toList ≠ s.data.toList := fun y hy e => hs (List.any_eq_true.2 ⟨y, hy, by rw [bt_eq e]; exact beq_self_eq_true _⟩)
    refine ⟨?_, fun p => ?_⟩
    · rw [List.map_append]
      refine List.nodup_append.2 ⟨h.nd, by simp, ?_⟩
      intro p hp q hq e
      obtain ⟨y, hy, rfl⟩ := List.mem_map.1 hp
      have hq : q = s.data.toList := by simpa using hq
      exact hne y hy (by rw [e, hq])
    · rw [List.map_append, List.mem_append, h.mem]
      simp
theorem SX.pos {X : List ByteArray} {S : T → Prop} (h : SX X S) (h0 : S []) : 0 < X.length := by
  have := List.length_pos_of_mem ((h.mem []).2 h0)
  rwa [List.length_map] at this
theorem addT_len (X : List ByteArray) (s : ByteArray) : (addT X s).length ≤ X.length + 1 := by
  unfold addT
  split
  · omega
  · simp
/-- Behind i keys: which texts. -/
def Sn (K : Nat → T) (i : Nat) (p : T) : Prop := p = [] ∨ ∃ a, a < i ∧ (p = K a ∨ ∃ b, b < a ∧ p = lcp (K a) (K b))
/-- And behind j keys before the i-th one. -/
def Si (K : Nat → T) (i j : Nat) (p : T) : Prop := (Sn K i p ∨ p = K i) ∨ ∃ b, b < j ∧ p = lcp (K i) (K b)
theorem Sn.nil (K : Nat → T) (i : Nat) : Sn K i [] := .inl rfl
theorem Si.nil (K : Nat → T) (i j : Nat) : Si K i j [] := .inl (.inl (.inl rfl))
theorem sx_one (K : Nat → T) : SX [⟨#[]⟩] (Sn K 0) := ⟨by simp, fun p => by
  unfold Sn
  simp⟩
theorem Si.zero (K : Nat → T) (i : Nat) (p : T) : (Sn K i p ∨ p = K i) ↔ Si K i 0 p := ⟨.inl, fun h => h.elim id fun ⟨b, hb, _⟩ => absurd hb (Nat.not_lt_zero _)⟩
theorem Si.succ (K : Nat → T) (i j : Nat) (p : T) : (Si K i j p ∨ p = lcp (K i) (K j)) ↔ Si K i (j + 1) p := by
  unfold Si
  constructor
  · rintro ((h | ⟨b, hb, e⟩) | e)
    · exact .inl h
    · exact .inr ⟨b, by omega, e⟩
    · exact .inr ⟨j, by omega, e⟩
  · rintro (h | ⟨b, hb, e⟩)
    · exact .inl (.inl h)
    · rcases Nat.lt_or_ge b j with h1 | h1
      · exact .inl (.inr ⟨b, h1, e⟩)
      · obtain rfl : b = j := by omega
        exact .inr e
theorem Si.all (K : Nat → T) (i : Nat) (p : T) : Si K i i p ↔ Sn K (i + 1) p := by
  unfold Si Sn
  constructor
  · rintro (((h | ⟨a, ha, h⟩) | h) | ⟨b, hb, e⟩)
    · exact .inl h
    · exact .inr ⟨a, by omega, h⟩
    · exact .inr ⟨i, by omega, .inl h⟩
    · exact .inr ⟨i, by omega, .inr ⟨b, hb, e⟩⟩
  · rintro (h | ⟨a, ha, h⟩)
    · exact .inl (.inl (.inl h))
    · rcases Nat.lt_or_ge a i with h1 | h1
      · exact .inl (.inl (.inr ⟨a, h1, h⟩))
      · obtain rfl : a = i := by omega
        rcases h with h | h
        · exact .inl (.inr h)
        · exact .inr h
/-- What the checking package's nodes are: as the tree's. -/
theorem sn_texts (K : Nat → T) (n : Nat) (p : T) : Sn K n p ↔ p = [] ∨ (∃ a, a < n ∧ K a = p) ∨ ∃ a, a < n ∧ ∃ b, b < n ∧ ∃ x y : UInt8, x < y ∧ p ++ [x] <+: K a ∧ p ++ [y] <+: K b := by
  unfold Sn
  constructor
  · rintro (h | ⟨a, ha, h | ⟨b, hb, h⟩⟩)
    · exact .inl h
    · exact .inr (.inl ⟨a, ha, h.symm⟩)
    · by_cases h1 : p = K a
      · exact .inr (.inl ⟨a, ha, h1.symm⟩)
      · by_cases h2 : p = K b
        · exact .inr (.inl ⟨b, by omega, h2.symm⟩)
        · obtain ⟨x, hx⟩ := ext_of (by rw [h]; exact lcp_left _ _ : p <+: K a) h1
          obtain ⟨y, hy⟩ := ext_of (by rw [h]; exact lcp_right _ _ : p <+: K b) h2
          have hne : x ≠ y := fun e => by
            subst e
            have := (lcp_max hx hy).length_le
            rw [← h, List.length_append] at this
            have h0 : [x].length = 1 := rfl
            omega
          rcases UInt8.lt_or_lt_of_ne hne with h3 | h3
          · exact .inr (.inr ⟨a, ha, b, by omega, x, y, h3, hx, hy⟩)
          · exact .inr (.inr ⟨b, by omega, a, ha, y, x, h3, hy, hx⟩)
  · rintro (h | ⟨a, ha, h⟩ | ⟨a, ha, b, hb, x, y, hxy, hx, hy⟩)
    · exact .inl h
    · exact .inr ⟨a, ha, .inl h.symm⟩
    · have hne : x ≠ y := fun e => by subst e; exact ulirr _ hxy
      rcases Nat.lt_trichotomy a b with h1 | h1 | h1
      · exact .inr ⟨b, hb, .inr ⟨a, h1, by rw [lcp_comm]; exact (lcp_part hx hy hne).symm⟩⟩
      · subst h1
        exact (hne (ext_one hx hy)).elim
      · exact .inr ⟨a, ha, .inr ⟨b, h1, (lcp_part hx hy hne).symm⟩⟩
end Go.Proofs.Ytnmncjeplfkdpaa.Pb
/- The checking package's Nodes. No condition but bounds. -/
namespace Go.Proofs.Ytnmncjeplfkdpaa.Pb
set_option linter.unusedVariables false
set_option linter.unusedSimpArgs false
open Go.ChangeShapes Go.WideShapes Go.ChangeAt Go.RowKit
open Pa (RowT InT addT InM Mk)
/-- The i-th key. -/
def kyM (l : List Mk) (i : Nat) : T := (l[i]?.getD (⟨#[]⟩, 0)).1.data.toList
theorem kyM_at {l : List Mk} {i : Nat} (hi : i < l.length) : kyM l i = l[i].1.data.toList := by
  unfold kyM
  rw [List.getElem?_eq_getElem hi]; rfl
/-- How far two keys go together, byte by byte. -/
structure Com (p q : ByteArray) (n : Nat) : Prop where
  le : n ≤ p.size
  lq : n ≤ q.size
  eq : ∀ i (h1 : i < p.size) (h2 : i < q.size), i ≤ n → ((p[i]'h1 = q[i]'h2) ↔ i < n)
  cut : (p.extract 0 n).data.toList = lcp p.data.toList q.data.toList
theorem com_of (p q : ByteArray) : ∃ n, Com p q n := by
  refine ⟨(lcp p.data.toList q.data.toList).length, ?_, ?_, fun i h1 h2 hi => ?_, ?_⟩
  · have := (lcp_left p.data.toList q.data.toList).length_le
    rwa [dlen] at this
  · have := (lcp_right p.data.toList q.data.toList).length_le
    rwa [dlen] at this
  · have := lcp_get p.data.toList q.data.toList i (by rw [dlen]; exact h1) (by rw [dlen]; exact h2) hi
    rw [← this, dget, dget]
  · rw [ByteArray.data_extract, Array.toList_extract]
    simp only [Nat.sub_zero, List.drop_zero, List.extract_eq_take_drop]
    exact (List.prefix_iff_eq_take.1 (lcp_left _ _)).symm
theorem rowT_one (w : World) : RowT w (w.alloc (.cells #[.string ⟨#[]⟩] 9)) (.slice (some ⟨w.heap.size, 0, none⟩) 1 1) [⟨#[]⟩] :=
  ⟨⟨by simp [Pa.cellsT], .inr ⟨w.heap.size, 1, #[.string ⟨#[]⟩], rfl, Nat.le_refl _, heap_alloc_new w _, Nat.le_refl _, by decide, rfl, by simp [Pa.cellsT]⟩⟩, Pa.bbox _⟩
set_option maxHeartbeats 16000000 in
set_option maxRecDepth 100000 in
theorem refNodes_calls (w : World) (a : Option Addr) (c : Nat) (l : List Mk) (hn : l.length ≤ 900) (hlc : l.length ≤ c) (hc : c ≤ 9223372036854775807) (hK : ∀ i (h : i < l.length), l[i].1.size ≤ 140737488351232) (hI : InM w a l) :
    Calls Try.prog 15 #[.slice a l.length c] w fun e w' => (∃ X, SX X (Sn (kyM l) l.length) ∧ e = .returned (.int .i64 X.length)) ∧ Below w.heap.size w w' := by
  have HI := Lib.hid hI
  have HK := Lib.hid hK
  clear hI hK
  go_enter Try.func15, Try.ntmps15
  go_wp2_with fail
  go_loopg [3, 4, 5, 7, 8, 12] (l.length + 1) (fun g tv _ _ _ _ vi wr => ∃ (i : Nat) (X : List ByteArray), vi = .int .i64 i ∧ i ≤ l.length ∧ l.length - i ≤ g ∧ X.length ≤ 1 + 1001 * i ∧ Hid (SX X (Sn (kyM l) i)) ∧ Hid (RowT w wr tv X))
  case atStart => exact ⟨0, [⟨#[]⟩], rfl, by omega, by omega, by simp, Lib.hid (sx_one _), Lib.hid (rowT_one w)⟩
  case round =>
    obtain ⟨i, X, rfl, hi, hg, hX, HS, HR⟩ := hrel
    by_cases hil : i < l.length
    case neg =>
      obtain rfl : i = l.length := by omega
      obtain ⟨ta, tc, rfl, -, -, -⟩ := HR.out.slice
      go_wp2_with fail
      go_ret
      exact ⟨⟨X, HS.out, rfl⟩, HR.out.bel⟩
    case pos =>
      have hic : (i : Int) < (l.length : Int) := by omega
      obtain ⟨ga, rfl, h1, h2⟩ := (HI.out.below HR.out.bel) i hil
      have HKi := Lib.hid (kyM_at hil)
      have hki := HK.out i hil
      generalize l[i].1 = p at *
      generalize l[i].2 = z at *
      have HBx := Lib.hid (bbox (w := wr) (.cells #[.string p, .int .i64 z] 63))
      have HC := Lib.hid (refAdd_below w _ _ X (by omega) (HS.out.pos (Sn.nil _ _)) (HR.out.below HBx.out) p)
      have HS1 : Hid (SX (addT X p) (Si (kyM l) i 0)) := Lib.hid ((HS.out.add p).iff fun t => by rw [← HKi.out]; exact Si.zero _ _ _)
      have hX1 := addT_len X p
      have ha0 : (wr.alloc (.cells #[.string p, .int .i64 z] 63)).cell? ⟨wr.heap.size, 0, none⟩ = some (.string p) := World.cell?_alloc_new wr _ _ 0
      have hbl : wr.heap.size < (wr.alloc (.cells #[.string p, .int .i64 z] 63)).heap.size := by simp
      have HA0 : Hid (∀ W, Below (wr.alloc (.cells #[.string p, .int .i64 z] 63)).heap.size (wr.alloc (.cells #[.string p, .int .i64 z] 63)) W → W.cell? ⟨wr.heap.size, 0, none⟩ = some (.string p)) := Lib.hid (fun W hW => (hW.cell (p := ⟨wr.heap.size, 0, none⟩) hbl).trans ha0)
      clear ha0 hbl
      go_wp2_with fail
      refine HC.out.mono ?_; rintro en w3 ⟨v3, rfl, hR3, hb3⟩
      have HR3 := Lib.hid hR3
      have HA3 : Hid (∀ W, Below w3.heap.size w3 W → W.cell? ⟨wr.heap.size, 0, none⟩ = some (.string p)) := Lib.hid (fun W hW => HA0.out W (bstep hb3 hW))
      clear HC hR3 hb3 HA0 HBx HR HS h1 h2
      obtain ⟨X1, hX1e⟩ : ∃ X1, addT X p = X1 := ⟨_, rfl⟩
      rw [hX1e] at HR3 HS1 hX1
      clear hX1e
      generalize wr.heap.size = ba at *
      obtain ⟨gO, hgO⟩ : ∃ g, gk = g := ⟨_, rfl⟩
      have hicap : (i : Int) ≤ (c : Int) := by omega
      go_wp2_with fail
      go_loopg [3, 7, 8, 25] (i + 1) (fun g tv _ _ vj wr => ∃ (j : Nat) (X : List ByteArray), vj = .int .i64 j ∧ j ≤ i ∧ i - j ≤ g ∧ X.length ≤ 2 + 1001 * i + j ∧ Hid (SX X (Si (kyM l) i j)) ∧ Hid (RowT w wr tv X) ∧ Hid (Below w3.heap.size w3 wr))
      case atStart => exact ⟨0, X1, rfl, by omega, by omega, by omega, HS1, HR3, Lib.hid (Below.refl _ _)⟩
      case round =>
        obtain ⟨j, X2, rfl, hj, hg2, hX2, HS2, HR2, HB2⟩ := hrel
        clear HR3 HS1 hX1
        by_cases hji : j < i
        case neg =>
          obtain rfl : j = i := by omega
          have HSE : Hid (SX X2 (Sn (kyM l) (j + 1))) := Lib.hid (HS2.out.iff fun t => Si.all _ _ _)
          go_wp2_with fail
          go_roundg (gO - 1)
          case measure => omega
          case rel => exact ⟨j + 1, X2, by go_num, by omega, by omega, by omega, HSE, HR2⟩
        case pos =>
          have hjc : (j : Int) < (i : Int) := by omega
          have hjl : j < l.length := by omega
          obtain ⟨ga', hge, d1, d2⟩ := (HI.out.below HR2.out.bel) j hjl
          cases hge
          have HKj := Lib.hid (kyM_at hjl)
          have hkj := HK.out j hjl
          generalize l[j].1 = q at *
          generalize l[j].2 = y at *
          obtain ⟨N, hN⟩ := com_of p q
          have hNp := hN.le
          have hNq := hN.lq
          have HN := Lib.hid hN
          obtain ⟨w4, hw4⟩ : ∃ w4, w4 = wr.alloc (.cells #[.string q, .int .i64 y] 63) := ⟨_, rfl⟩
          have hb4 : Below wr.heap.size wr w4 := by rw [hw4]; exact bbox _
          have HB4 : Hid (Below w3.heap.size w3 w4) := Lib.hid (bstep HB2.out hb4)
          have hbl : wr.heap.size < w4.heap.size := by rw [hw4]; simp
          have hd0 : w4.cell? ⟨wr.heap.size, 0, none⟩ = some (.string q) := by rw [hw4]; exact World.cell?_alloc_new wr _ _ 0
          have HD : Hid (∀ W, Below w4.heap.size w4 W → W.cell? ⟨wr.heap.size, 0, none⟩ = some (.string q) ∧ W.cell? ⟨ba, 0, none⟩ = some (.string p)) := Lib.hid (fun W hW => ⟨(hW.cell (p := ⟨wr.heap.size, 0, none⟩) hbl).trans hd0, HA3.out W (bstep HB4.out hW)⟩)
          have HR4 : Hid (RowT w w4 u3 X2) := Lib.hid (HR2.out.below hb4)
          have HS4 : Hid (SX (addT X2 (p.extract 0 N)) (Si (kyM l) i (j + 1))) := Lib.hid ((HS2.out.add _).iff fun t => by rw [hN.cut, ← HKi.out, ← HKj.out]; exact Si.succ _ _ _ _)
          have HX4 := Lib.hid (addT_len X2 (p.extract 0 N))
          have HP4 : Hid (0 < X2.length) := Lib.hid (HS2.out.pos (Si.nil _ _ _))
          have HWe := Lib.hid hw4
          clear hN hb4 hbl hd0 HS2 HR2 hw4
          obtain ⟨g2, hg2e⟩ : ∃ g, gk = g := ⟨_, rfl⟩
          go_wp2_with fail
          rw [← HWe.out]
          clear d1 d2 HWe
          generalize wr.heap.size = bb at *
          go_loopg [8] (N + 1) (fun g vn wr => ∃ n : Nat, vn = .int .i64 n ∧ n ≤ N ∧ N - n ≤ g ∧ Hid (Below w4.heap.size w4 wr))
          case atStart => exact ⟨0, rfl, by omega, by omega, Lib.hid (Below.refl _ _)⟩
          case round =>
            obtain ⟨n, rfl, hnN, hg3, HB5⟩ := hrel
            obtain ⟨e1, e2⟩ := HD.out _ HB5.out
            have HB6 : Hid (∀ m, Below w4.heap.size w4 (wr.drewN m)) := Lib.hid (fun m => bstep HB5.out (bdrew _ m))
            have hn0 : (0 : Int) ≤ (n : Int) := by omega
            by_cases hlt : n < N
            case pos =>
              have hnp : n < p.size := by omega
              have hnq : n < q.size := by omega
              have hpc : (n : Int) < (p.size : Int) := by omega
              have hqc : (n : Int) < (q.size : Int) := by omega
              have hb : (((p[n]'hnp).toNat : Int) == ((q[n]'hnq).toNat : Int)) = true := by rw [(HN.out.eq n hnp hnq hnN).2 hlt]; exact beq_self_eq_true _
              go_wp2_with fail
              go_big_quiet (fail)
              go_wp2_with fail
              go_roundg (gk - 1)
              case measure => omega
              case rel => exact ⟨n + 1, by go_num, by omega, by omega, Lib.hid (HB6.out _)⟩
            case neg =>
              obtain rfl : n = N := by omega
              by_cases hnp : n < p.size
              case neg =>
                have hpc : ¬ (n : Int) < (p.size : Int) := by omega
                have hpd : decide ((n : Int) < (p.size : Int)) = false := decide_eq_false hpc
                have hnpc : (n : Int) ≤ (p.size : Int) := by omega
                have HC := Lib.hid (fun m => refAdd_below w (wr.drewN m) _ X2 (by omega) HP4.out (HR4.out.below (HB6.out m)) (p.extract 0 n))
                go_wp2_with fail
                go_big_quiet (fail)
                go_wp2_with fail
                refine (HC.out _).mono ?_; rintro en w6 ⟨v6, rfl, hR6, hb6⟩
                have HR6 := Lib.hid hR6
                have HB8 : Hid (Below w3.heap.size w3 w6) := Lib.hid (bstep (bstep HB4.out (HB6.out _)) hb6)
                clear HC hR6 hb6
                go_wp2_with fail
                go_roundg (g2 - 1)
                case measure => omega
                case rel => exact ⟨j + 1, _, by go_num, by omega, by omega, by have := HX4.out; omega, HS4, HR6, HB8⟩
              case pos =>
                have hpc : (n : Int) < (p.size : Int) := by omega
                by_cases hnq : n < q.size
                case neg =>
                  have hqc : ¬ (n : Int) < (q.size : Int) := by omega
                  have hqd : decide ((n : Int) < (q.size : Int)) = false := decide_eq_false hqc
                  have hnpc : (n : Int) ≤ (p.size : Int) := by omega
                  have HC := Lib.hid (fun m => refAdd_below w (wr.drewN m) _ X2 (by omega) HP4.out (HR4.out.below (HB6.out m)) (p.extract 0 n))
                  go_wp2_with fail
                  go_big_quiet (fail)
                  go_wp2_with fail
                  refine (HC.out _).mono ?_; rintro en w6 ⟨v6, rfl, hR6, hb6⟩
                  have HR6 := Lib.hid hR6
                  have HB8 : Hid (Below w3.heap.size w3 w6) := Lib.hid (bstep (bstep HB4.out (HB6.out _)) hb6)
                  clear HC hR6 hb6
                  go_wp2_with fail
                  go_roundg (g2 - 1)
                  case measure => omega
                  case rel => exact ⟨j + 1, _, by go_num, by omega, by omega, by have := HX4.out; omega, HS4, HR6, HB8⟩
                case pos =>
                  have hqc : (n : Int) < (q.size : Int) := by omega
                  have hb : (((p[n]'hnp).toNat : Int) == ((q[n]'hnq).toNat : Int)) = false := by
                    rw [beq_eq_false_iff_ne]
                    intro e
                    exact hlt ((HN.out.eq n hnp hnq hnN).1 (UInt8.toNat_inj.1 (Int.ofNat.inj e)))
                  have hnpc : (n : Int) ≤ (p.size : Int) := by omega
                  have HC := Lib.hid (fun m => refAdd_below w (wr.drewN m) _ X2 (by omega) HP4.out (HR4.out.below (HB6.out m)) (p.extract 0 n))
                  go_wp2_with fail
                  go_big_quiet (fail)
                  go_wp2_with fail
                  refine (HC.out _).mono ?_; rintro en w6 ⟨v6, rfl, hR6, hb6⟩
                  have HR6 := Lib.hid hR6
                  have HB8 : Hid (Below w3.heap.size w3 w6) := Lib.hid (bstep (bstep HB4.out (HB6.out _)) hb6)
                  clear HC hR6 hb6
                  go_wp2_with fail
                  go_roundg (g2 - 1)
                  case measure => omega
                  case rel => exact ⟨j + 1, _, by go_num, by omega, by omega, by have := HX4.out; omega, HS4, HR6, HB8⟩
end Go.Proofs.Ytnmncjeplfkdpaa.Pb
