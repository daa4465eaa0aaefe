/- Package table: Keys. Conditions: what is always so of a table. -/
import Derived.Test.YtmjlhmohglbecaaGreatDoorTak
import Derived.Test.YtmjlhmohglbecaaGreatDoorLays
import Derived.Sort.OwnSorted
import Derived.Laws.AppendOwn
namespace Go.Proofs.YtmjlhmohglbecaaGreatDoor.Ta
open Go.ChangeShapes Go.WideShapes Go.ChangeAt Go.RowKit
/-- The keys of entries. -/
def entL (l : List Pl) : List (List UInt8) := (l.filter fun q => q.i == 1).map fun q => q.k.data.toList
def keysS (s : St) : List (List UInt8) := (entL s.now ++ entL s.nxt).mergeSort fun x y => decide (x ≤ y)
theorem entL_take {l : List Pl} {j : Nat} (hj : j < l.length) : entL (l.take (j + 1)) = entL (l.take j) ++ (if l[j].i == 1 then [l[j].k.data.toList] else []) := by
  unfold entL
  rw [← List.take_append_getElem hj, List.filter_append, List.map_append]
  congr 1
  cases h : (l[j].i == 1) <;> simp [h]
theorem entL_le (l : List Pl) : (entL l).length ≤ l.length := by
  unfold entL
  rw [List.length_map]
  exact List.length_filter_le _ _
theorem iStr : (Tryz.prog.info? 9).map (fun i => (i.zero, i.size, i.bytes)) = some (some (.string ⟨#[]⟩), 1, 16) := by kernel_rfl
theorem grow_of0 {w w' : World} (hb : Below w.heap.size w w') : w.grownBy w' none := ⟨hb.os, hb.tape, hb.output, hb.size, fun k hk _ => hb.block k hk⟩
/-- The strings l in a row v of the call's own, made behind the world wb; of wb all stands. -/
structure RowS (wb w : World) (v : Value) (l : List (List UInt8)) : Prop where
  row : w.ownsRow wb.heap.size 9 1 v l.length (l.map encStr)
  bel : Below wb.heap.size wb w
  one : v ≠ .slice none 0 0
theorem RowS.below {wb w w' : World} {v : Value} {l : List (List UInt8)} (h : RowS wb w v l) (hb : Below w.heap.size w w') : RowS wb w' v l :=
  ⟨h.row.kept (grow_of0 hb) (by cases hv : v.ownBlock <;> simp), h.bel.trans (hb.mono h.bel.size), h.one⟩
theorem rowS_made (wb w : World) (hb : Below wb.heap.size wb w) (cur : Array Value) (c : Nat) (hc : c ≤ 1000000) (hs : cur.size = c * 1) : RowS wb (w.alloc (.cells cur 9)) (.slice (some ⟨w.heap.size, 0, none⟩) 0 c) [] :=
  ⟨World.ownsRow_made w cur c hb.size (by unfold maxLen; omega) hs, hb.alloc hb.size _, fun h => by cases h⟩
theorem enc_toList (k : ByteArray) : Go.Proofs.encStr k.data.toList = .string k := rfl
theorem RowS.len {wb w : World} {v : Value} {l : List (List UInt8)} (h : RowS wb w v l) : ∃ g c, v = .slice (some ⟨g, 0, none⟩) l.length c := by
  rcases h.row.2 with ⟨e, -⟩ | ⟨g, cap, cur, e, -⟩
  · exact absurd e h.one
  · exact ⟨g, cap, e⟩
/-- One string appended to a row. -/
theorem str_push {wb w : World} {v : Value} {l : List (List UInt8)} {ops : Array Oper} {rest : List Oper} {o : Oper} {a : Act} {Q : Exit → Act → World → Prop} (hO : RowS wb w v l) (hgd : o.guard = none) (s x : Operand)
    (ho : o.op = .call { callee := .builtin .append, args := #[s, x], argTypes := #[53, 53] }) (hs : a.eval s = v) (k : ByteArray) (Te : TypeId) (c : Nat)
    {b : Nat} (hx : a.eval x = .slice (some ⟨b, 0, none⟩) 1 c) (hb : b = w.heap.size) (hl : l.length ≤ 1000000000)
    (h : ∀ v' w', RowS wb w' v' (l ++ [k.data.toList]) → wpList Tryz.prog ops Q rest (a.put o.dst v') w') : wpList Tryz.prog ops Q (o :: rest) a (w.alloc (.cells #[.string k] Te)) := by
  obtain ⟨i0, hi, hz0, hz1, hz2⟩ := info_parts iStr
  subst hb
  have hO2 := hO.below (bbox (.cells #[.string k] Te))
  refine wpList_append_own _ hgd s x 53 ho wb.heap.size 9 i0 (.string ⟨#[]⟩) 1 16 Tryz.underlying53 hi hz0 hz1 hz2 rfl (by decide) v l.length (l.map encStr) hs hO2.row ⟨w.heap.size, 0, none⟩ 1 c [.string k] hx rfl ?_ ?_ (by unfold maxLen; omega) (by omega) hO2.bel.size ?_
  · intro j u hj
    rw [Addr.add_lit, Nat.zero_add, World.cell?_alloc_new]
    simpa using hj
  · intro u hu
    simp only [List.mem_cons, List.not_mem_nil, or_false] at hu
    rcases hu with rfl
    rfl
  · intro v' w' hr2 hg _
    refine h v' w' ⟨?_, hO2.bel.grown hg hO2.bel.size (fun k hk => (hO2.row.lt k hk).1), fun e => ?_⟩
    · rw [List.length_append, List.map_append]
      exact hr2
    · subst e
      rcases hr2.2 with ⟨-, e⟩ | ⟨g, cap, cur, e, -⟩
      · omega
      · cases e
/-- Strings as they lie. -/
def InSt (w : World) (g : Nat) (l : List (List UInt8)) : Prop := g < w.heap.size ∧ ∀ i (h : i < l.length), w.cell? ⟨g, i, none⟩ = some (.string ⟨l[i].toArray⟩)
theorem InSt.below {w w' : World} {g : Nat} {l : List (List UInt8)} (h : InSt w g l) (hb : Below w.heap.size w w') : InSt w' g l := ⟨Nat.lt_of_lt_of_le h.1 hb.size, fun i hi => (hb.cell (p := ⟨g, i, none⟩) h.1).trans (h.2 i hi)⟩
theorem sort_calls {wb w : World} {v : Value} {l : List (List UInt8)} (h : RowS wb w v l) (hl : l.length ≤ 1000000) :
    Calls Tryz.prog 43 #[v] w fun e w' => e = .returned (.tuple #[]) ∧ ∃ g c, v = .slice (some ⟨g, 0, none⟩) l.length c ∧ wb.heap.size ≤ g ∧ InSt w' g (l.mergeSort fun x y => decide (x ≤ y)) ∧ Below wb.heap.size wb w' := by
  rcases h.row.2 with ⟨e, -⟩ | ⟨g, cap, cur, rfl, hbase, hb, h1, h2, h3, h4⟩
  · exact absurd e h.one
  · rw [Nat.mul_one] at h4
    have hH := holds_of_block hb h4
    have hg : g < w.heap.size := (Array.getElem?_eq_some_iff.1 hb).1
    refine (Any.slices_Sort_string Tryz.lays190 g 0 cap l w hH hg (by omega)).mono ?_
    rintro e w' ⟨rfl, n, os, rfl⟩
    refine ⟨rfl, g, cap, rfl, hbase, ⟨?_, fun i hi => ?_⟩, h.bel.grown (grownBy_sorted _) h.bel.size (fun k hk => by injection hk with hk; omega)⟩
    · simp; omega
    · have hsz : (l.mergeSort fun x y => decide (x ≤ y)).length = l.length := List.length_mergeSort l
      have e1 := Go.Sort.cell?_putRow encStr (Go.Sort.ahead w n) g 0 l.toArray (l.mergeSort fun x y => decide (x ≤ y)).toArray (Go.Sort.holds_ahead _ _ _ _ _ _ hH) (by simp) i (by simpa using hi)
      rw [Go.Sort.cell?_grow _ _ _ (by simpa using hg)]
      rw [Nat.zero_add] at e1
      rw [e1, getElem!_pos _ i (by simpa using hi)]
      simp
set_option maxHeartbeats 4000000 in
set_option maxRecDepth 100000 in
theorem keys_calls (w : World) (T G1 G2 : Nat) (s : St) (hT : TAt w T G1 G2 s) {c : Int} (hO : Ok c s) :
    Calls Tryz.prog 18 #[.pointer (some ⟨T, 0, none⟩)] w fun e w' => ∃ g k, e = .returned (.slice (some ⟨g, 0, none⟩) (keysS s).length k) ∧ w.heap.size ≤ g ∧ InSt w' g (keysS s) ∧ Below w.heap.size w w' := by
  obtain ⟨L, hL⟩ : ∃ L : Nat, lenS s = (L : Int) := ⟨(lenS s).toNat, by have := hO.a.rng; have := hO.b.rng; unfold lenS; omega⟩
  have hL2 : L ≤ 8192 := by have := hO.a.rng; have := hO.b.rng; have := hO.b1; have := hO.b2; unfold lenS at hL; omega
  have HLn := Lib.hid (len_calls w T G1 G2 s hT hO)
  rw [hL] at HLn
  have HA := Lib.hid hT.a
  have HB := Lib.hid hT.b
  have HTl := Lib.hid hT.a.lt
  have HG1 := Lib.hid (hT.a.ltG (by have := hO.p1.facts; omega))
  have HG2 := Lib.hid (fun hn => hT.b.ltG hn)
  have hn1 := hO.b1
  have hn2 := hO.b2
  have HBo := Lib.hid (fun W => both_calls W T)
  have HKS : Hid (keysS s = (entL s.now ++ entL s.nxt).mergeSort fun x y => decide (x ≤ y)) := Lib.hid rfl
  have HKL : Hid ((keysS s).length = (entL s.now ++ entL s.nxt).length) := Lib.hid (by unfold keysS; exact List.length_mergeSort _)
  generalize keysS s = K at *
  generalize s.now = L1 at *
  generalize s.nxt = L2 at *
  clear hT hO hL
  obtain ⟨i0, hi, hz0, hz1, hz2⟩ := info_parts iStr
  have hmk : ∀ w : World, Sem.run Tryz.prog (Instr.makeSlice 53 (.int .i64 0) (.int .i64 (L : Int))) w = .ok (.slice (some ⟨w.heap.size, 0, none⟩) 0 L) (w.alloc (.cells (madeCells (Value.string ⟨#[]⟩).cells (L * 1)) 9)) := fun w => by
    have := run_make w 53 9 i0 _ Tryz.underlying53 hi hz0 .i64 .i64 0 L (by omega) (by omega) (by rw [hz2]; omega) (by omega)
    rw [hz1, Int.toNat_natCast] at this
    exact this
  clear hi hz0 hz1 hz2
  go_enter Tryz.func18, Tryz.ntmps18
  go_wp2_with fail
  refine HLn.out.mono ?_; rintro en w2 ⟨rfl, n2, rfl⟩
  have HR2 : Hid (RowS w ((w.drewN n2).alloc (.cells (madeCells #[Value.string ⟨#[]⟩] L) 9)) (.slice (some ⟨w.heap.size, 0, none⟩) 0 L) []) := Lib.hid (rowS_made w (w.drewN n2) (drewN_below w n2) (madeCells #[Value.string ⟨#[]⟩] L) L (by omega) (by rw [size_madeCells, Nat.mul_one]))
  go_wp2_with fail
  clear hmk
  generalize (w.drewN n2).alloc (.cells (madeCells #[Value.string ⟨#[]⟩] L) 9) = w3 at *
  generalize Value.slice (some ⟨w.heap.size, 0, none⟩) 0 L = v0 at *
  refine (HBo.out w3).mono ?_; rintro en w4 ⟨rfl, hb4⟩
  have HR4 := Lib.hid (HR2.out.below hb4)
  clear hb4 HR2 HLn
  go_wp2_with fail
  refine wp_loop_rounds 3 ?_
  obtain ⟨x0, d0, hx0⟩ := HA.out.c0
  have d0b : w4.cell? ⟨T, 0, none⟩ = some (.slice x0 L1.length L1.length) := (HR4.out.bel.cell (p := ⟨T, 0, none⟩) HTl.out).trans d0
  clear d0
  rw [rounds_succ]
  go_wp2_with fail
  clear d0b
  go_loopg [3, 7, 21] (L1.length + 1) (fun g v3 _ vi wr => ∃ j : Nat, vi = .int .i64 j ∧ j ≤ L1.length ∧ L1.length - j ≤ g ∧ Hid (RowS w wr v3 (entL (L1.take j))))
  case atStart => exact ⟨0, rfl, by omega, by omega, Lib.hid (by simpa [entL] using HR4.out)⟩
  case round =>
    obtain ⟨j, rfl, hj, hg, HR⟩ := hrel
    by_cases hjl : j < L1.length
    case pos =>
      have hjc : (j : Int) < (L1.length : Int) := by omega
      obtain rfl := hx0 (by omega)
      obtain ⟨c0, c1, c2⟩ := HA.out.pl j hjl
      have eb : ∀ i, wr.cell? ⟨G1, i, none⟩ = w.cell? ⟨G1, i, none⟩ := fun i => HR.out.bel.cell (p := ⟨G1, i, none⟩) HG1.out
      rw [← eb] at c0 c1 c2
      have HE := Lib.hid (entL_take hjl)
      have HLe : Hid ((entL (L1.take j)).length ≤ 1000000) := Lib.hid (by have := entL_le (L1.take j); have := entL_le L1; have := List.length_take_le j L1; first | omega | (rw [List.length_append]; omega))
      clear eb hx0
      generalize L1[j] = q at *
      have HR1 : Hid (∀ O, RowS w (wr.alloc O) u3 (entL (L1.take j))) := Lib.hid (fun O => HR.out.below (bbox O))
      cases hq : (q.i == 1)
      · have HZ : Hid (∀ O, RowS w (wr.alloc O) u3 (entL (L1.take (j + 1)))) := Lib.hid (fun O => by rw [HE.out, hq]; simpa using HR1.out O)
        go_wp2_with fail
        go_roundg (gk - 1)
        case measure => omega
        case rel => exact ⟨j + 1, by go_num, by omega, by omega, Lib.hid (HZ.out _)⟩
      · have HZ : Hid ((entL (L1.take j)) ++ [q.k.data.toList] = entL (L1.take (j + 1))) := Lib.hid (by rw [HE.out, hq]; simp)
        go_wp2_with (at_builtin; refine str_push (HR1.out _) rfl _ _ rfl rfl q.k _ _ rfl (by simp) ?hl ?_)
        case hl => exact Nat.le_trans HLe.out (by omega)
        intro v5 w5 hR5
        have HR5 := Lib.hid hR5
        rw [HZ.out] at HR5
        clear hR5
        go_wp2_with fail
        go_roundg (gk - 1)
        case measure => omega
        case rel => exact ⟨j + 1, by go_num, by omega, by omega, HR5⟩
    case neg =>
      have hjc : ¬ ((j : Int) < (L1.length : Int)) := by omega
      obtain rfl : j = L1.length := by omega
      rw [List.take_length] at HR
      clear hx0
      go_wp2_with fail
      obtain ⟨x3, d3, hx3⟩ := HB.out.c0
      have d3b : wr.cell? ⟨T, 3, none⟩ = some (.slice x3 L2.length L2.length) := (HR.out.bel.cell (p := ⟨T, 3, none⟩) HTl.out).trans d3
      clear d3
      rw [rounds_succ]
      go_wp2_with fail
      clear d3b
      go_loopg [3, 7, 21] (L2.length + 1) (fun g v3 _ vi wr => ∃ j : Nat, vi = .int .i64 j ∧ j ≤ L2.length ∧ L2.length - j ≤ g ∧ Hid (RowS w wr v3 (entL L1 ++ entL (L2.take j))))
      case atStart => exact ⟨0, rfl, by omega, by omega, Lib.hid (by simpa [entL] using HR.out)⟩
      case round =>
        obtain ⟨j, rfl, hj, hg, HR⟩ := hrel
        by_cases hjl : j < L2.length
        case pos =>
          have hjc : (j : Int) < (L2.length : Int) := by omega
          obtain rfl := hx3 (by omega)
          obtain ⟨c0, c1, c2⟩ := HB.out.pl j hjl
          have eb : ∀ i, wr.cell? ⟨G2, i, none⟩ = w.cell? ⟨G2, i, none⟩ := fun i => HR.out.bel.cell (p := ⟨G2, i, none⟩) (HG2.out (by omega))
          rw [← eb] at c0 c1 c2
          have HE := Lib.hid (entL_take hjl)
          have HLe : Hid ((entL L1 ++ entL (L2.take j)).length ≤ 1000000) := Lib.hid (by have := entL_le (L2.take j); have := entL_le L1; have := List.length_take_le j L2; first | omega | (rw [List.length_append]; omega))
          clear eb hx3
          generalize L2[j] = q at *
          have HR1 : Hid (∀ O, RowS w (wr.alloc O) u3 (entL L1 ++ entL (L2.take j))) := Lib.hid (fun O => HR.out.below (bbox O))
          cases hq : (q.i == 1)
          · have HZ : Hid (∀ O, RowS w (wr.alloc O) u3 (entL L1 ++ entL (L2.take (j + 1)))) := Lib.hid (fun O => by rw [HE.out, hq]; simpa using HR1.out O)
            go_wp2_with fail
            go_roundg (gk - 1)
            case measure => omega
            case rel => exact ⟨j + 1, by go_num, by omega, by omega, Lib.hid (HZ.out _)⟩
          · have HZ : Hid ((entL L1 ++ entL (L2.take j)) ++ [q.k.data.toList] = entL L1 ++ entL (L2.take (j + 1))) := Lib.hid (by rw [HE.out, hq]; simp)
            go_wp2_with (at_builtin; refine str_push (HR1.out _) rfl _ _ rfl rfl q.k _ _ rfl (by simp) ?hl ?_)
            case hl => exact Nat.le_trans HLe.out (by omega)
            intro v5 w5 hR5
            have HR5 := Lib.hid hR5
            rw [← List.append_assoc, HZ.out] at HR5
            clear hR5
            go_wp2_with fail
            go_roundg (gk - 1)
            case measure => omega
            case rel => exact ⟨j + 1, by go_num, by omega, by omega, HR5⟩
        case neg =>
          have hjc : ¬ ((j : Int) < (L2.length : Int)) := by omega
          obtain rfl : j = L2.length := by omega
          rw [List.take_length] at HR
          clear hx3
          go_wp2_with fail
          rw [rounds_succ]
          go_wp2_with fail
          obtain ⟨g, cc, hv⟩ := HR.out.len
          have HSo := Lib.hid (sort_calls HR.out (by have := entL_le L1; have := entL_le L2; rw [List.length_append]; omega))
          rw [← HKS.out] at HSo
          refine HSo.out.mono ?_; rintro en w6 ⟨rfl, g6, c6, hv6, hg6, hI6, hb6⟩
          have HI6 := Lib.hid hI6
          have HB6 := Lib.hid hb6
          have HV6 : Hid (u3 = .slice (some ⟨g6, 0, none⟩) K.length c6) := Lib.hid (by rw [HKL.out]; exact hv6)
          clear hv6 hI6 hb6 hv HSo HR
          go_wp2_with fail
          go_ret
          exact ⟨g6, c6, by rw [HV6.out]; rfl, hg6, HI6.out, HB6.out⟩
end Go.Proofs.YtmjlhmohglbecaaGreatDoor.Ta
