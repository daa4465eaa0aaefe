/- Rows of strings; Due, All of package expiry; Same of layer 6. Conditions: an object as it lies; bounds. -/
import Derived.Test.YtabhnnffohnecaaEx3
namespace Go.Proofs.Ytabhnnffohnecaa.Ea
open Go.ChangeShapes Go.WideShapes Go.ChangeAt Go.RowKit
theorem beq_eq {x y : ByteArray} (h : x = y) : (x.toList == y.toList) = true := by rw [h]; exact beq_self_eq_true _
def cellsT (l : List ByteArray) : List Value := l.map .string
theorem cellsT_len (l : List ByteArray) : (cellsT l).length = l.length * 1 := by simp [cellsT]
theorem iStr : (Try.prog.info? 9).map (fun i => (i.zero, i.size, i.bytes)) = some (some (.string ⟨#[]⟩), 1, 16) := by kernel_rfl
/-- The strings l in a row v of the call's own, made behind the world wb; of wb all stands. -/
structure RowT (wb w : World) (v : Value) (l : List ByteArray) : Prop where
  row : w.ownsRow wb.heap.size 9 1 v l.length (cellsT l)
  bel : Below wb.heap.size wb w
theorem RowT.below {wb w w' : World} {v : Value} {l : List ByteArray} (h : RowT wb w v l) (hb : Below w.heap.size w w') : RowT wb w' v l :=
  ⟨h.row.kept (grow_of0 hb) (by cases hv : v.ownBlock <;> simp), h.bel.trans (hb.mono h.bel.size)⟩
/-- .. with room for c strings, at a world that w has grown to. -/
theorem rowT_made2 {w0 w : World} (hb : Below w0.heap.size w0 w) (cur : Array Value) (c : Nat) (hc : c ≤ 1000000000) (hs : cur.size = c * 1) : RowT w0 (w.alloc (.cells cur 9)) (.slice (some ⟨w.heap.size, 0, none⟩) 0 c) [] :=
  ⟨World.ownsRow_made w cur c hb.size (by unfold maxLen; omega) hs, hb.alloc hb.size _⟩
theorem rowT_made (w : World) : RowT w (w.alloc (.cells #[] 9)) (.slice (some ⟨w.heap.size, 0, none⟩) 0 0) [] := ⟨World.ownsRow_made w #[] 0 (Nat.le_refl _) (Nat.zero_le _) rfl, bbox _⟩
theorem RowT.over {wa wb w : World} {v : Value} {l : List ByteArray} (h : RowT wb w v l) (hb : Below wa.heap.size wa wb) : RowT wa w v l := by
  refine ⟨⟨h.row.1, ?_⟩, hb.trans (h.bel.mono hb.size)⟩
  rcases h.row.2 with h | ⟨g, cap, cur, h1, h2, h3⟩
  · exact Or.inl h
  · exact Or.inr ⟨g, cap, cur, h1, Nat.le_trans hb.size h2, h3⟩
/-- The strings l lie at a. -/
def InT (w : World) (a : Option Addr) (l : List ByteArray) : Prop := ∀ i (hi : i < l.length), ∃ g, a = some ⟨g, 0, none⟩ ∧ w.cell? ⟨g, i, none⟩ = some (.string l[i])
theorem InT.below {w w' : World} {a : Option Addr} {l : List ByteArray} (h : InT w a l) (hb : Below w.heap.size w w') : InT w' a l := fun i hi => by
  obtain ⟨g, e, h1⟩ := h i hi
  exact ⟨g, e, (hb.cell (p := ⟨g, i, none⟩) (World.block_lt_of_cell? w _ h1)).trans h1⟩
/-- Where a row's strings lie: nowhere, or in a block of the call's own. -/
def Own (b : Nat) (a : Option Addr) (l : List ByteArray) : Prop := 0 < l.length → ∃ g, a = some ⟨g, 0, none⟩ ∧ b ≤ g
theorem RowT.slice {wb w : World} {v : Value} {l : List ByteArray} (h : RowT wb w v l) : ∃ a c, v = .slice a l.length c ∧ l.length ≤ c ∧ c ≤ 9223372036854775807 ∧ InT w a l ∧ Own wb.heap.size a l := by
  rcases h.row.2 with ⟨rfl, hn⟩ | ⟨g, cap, cur, rfl, hg, hh, h1, h2, h3, h4⟩
  · exact ⟨none, 0, by rw [hn], by omega, Nat.zero_le _, fun i hi => absurd hi (by omega), fun h => absurd h (by omega)⟩
  · refine ⟨some ⟨g, 0, none⟩, cap, rfl, h1, by unfold maxLen at h2; omega, fun i hi => ⟨g, rfl, ?_⟩, fun _ => ⟨g, rfl, hg⟩⟩
    have e1 : (cur.toList.take (l.length * 1))[i]? = cur.toList[i]? := List.getElem?_take_of_lt (by omega)
    rw [h4] at e1
    have e2 : (cellsT l)[i]? = some (.string l[i]) := by simp [cellsT, hi]
    rw [e2] at e1
    simp only [World.cell?, hh]
    simpa using e1.symm
/-- The strings r appended to a row's. -/
theorem str_push {wb w : World} {v : Value} {l : List ByteArray} {ops : Array Oper} {rest : List Oper} {o : Oper} {a : Act} {Q : Exit → Act → World → Prop} (hO : RowT wb w v l) (hgd : o.guard = none) (s x : Operand)
    (ho : o.op = .call { callee := .builtin .append, args := #[s, x], argTypes := #[45, 45] }) (hs : a.eval s = v) (r : List ByteArray) (c : Nat)
    {b n : Nat} (hx : a.eval x = .slice (some ⟨b, 0, none⟩) n c) (hn : n = r.length) (hI : InT w (some ⟨b, 0, none⟩) r) (hl : l.length ≤ 1000000000) (hr : r.length ≤ 1000000000)
    (h : ∀ v' w', RowT wb w' v' (l ++ r) → wpList Try.prog ops Q rest (a.put o.dst v') w') : wpList Try.prog ops Q (o :: rest) a w := by
  obtain ⟨i0, hi, hz0, hz1, hz2⟩ := info_parts iStr
  subst hn
  refine wpList_append_own _ hgd s x 45 ho wb.heap.size 9 i0 (.string ⟨#[]⟩) 1 16 Try.underlying45 hi hz0 hz1 hz2 rfl (by decide) v l.length (cellsT l) hs hO.row ⟨b, 0, none⟩ r.length c (cellsT r) hx (cellsT_len r) ?_ ?_ (by unfold maxLen; omega) (by omega) hO.bel.size ?_
  · intro j u hj
    rw [Addr.add_lit, Nat.zero_add]
    have hjr : j < r.length := by
      have h0 := (List.getElem?_eq_some_iff.1 hj).1
      rw [cellsT_len] at h0
      omega
    obtain ⟨g, e, hc⟩ := hI j hjr
    cases e
    rw [hc, ← hj]
    simp [cellsT, hjr]
  · intro u hu
    obtain ⟨y, -, rfl⟩ := List.mem_map.1 hu
    rfl
  · intro v' w' hr2 hg _
    refine h v' w' ⟨?_, hO.bel.grown hg hO.bel.size (fun k hk => (hO.row.lt k hk).1)⟩
    rw [List.length_append, show cellsT (l ++ r) = cellsT l ++ cellsT r from List.map_append]
    exact hr2
theorem inT_new (w : World) (s : ByteArray) (T : TypeId) : InT (w.alloc (.cells #[.string s] T)) (some ⟨w.heap.size, 0, none⟩) [s] := by
  intro i hi
  obtain rfl : i = 0 := by simpa using hi
  exact ⟨w.heap.size, rfl, by rw [World.cell?_alloc_new]; rfl⟩
theorem same_take {l r : List ByteArray} {j : Nat} (hl : j < l.length) (hr : j < r.length) (h : l.take j = r.take j) (he : l[j] = r[j]) : l.take (j + 1) = r.take (j + 1) := by
  rw [← List.take_append_getElem hl, ← List.take_append_getElem hr, h, he]
set_option maxHeartbeats 4000000 in
set_option maxRecDepth 100000 in
theorem same_calls (w : World) (a b : Option Addr) (c d : Nat) (l : List ByteArray) (hl : l.length ≤ 1000000) (hI : InT w a l) (hJ : InT w b l) :
    Calls Try.prog 18 #[.slice a l.length c, .slice b l.length d] w fun e w' => e = .returned (.bool true) ∧ Below w.heap.size w w' := by
  have HI := Lib.hid hI
  have HJ := Lib.hid hJ
  clear hI hJ
  go_enter Try.func18, Try.ntmps18
  go_wp2_with fail
  go_loopg [5, 13] (l.length + 1) (fun g _ vi wr => ∃ j : Nat, vi = .int .i64 j ∧ j ≤ l.length ∧ l.length - j ≤ g ∧ Hid (Below w.heap.size w wr))
  case atStart => exact ⟨0, rfl, by omega, by omega, Lib.hid (Below.refl _ _)⟩
  case round =>
    obtain ⟨j, rfl, hj, hg, HB⟩ := hrel
    by_cases hjl : j < l.length
    case pos =>
      have hjc : (j : Int) < (l.length : Int) := by omega
      obtain ⟨g1, rfl, c0⟩ := HI.out.below HB.out j hjl
      obtain ⟨g2, rfl, c1⟩ := HJ.out.below HB.out j hjl
      generalize l[j] = q at *
      go_wp2_with fail
      go_quiet (fail)
      go_wp2_with fail
      go_roundg (gk - 1)
      case measure => omega
      case rel => exact ⟨j + 1, by go_num, by omega, by omega, Lib.hid (HB.out.trans ⟨rfl, rfl, rfl, Nat.le_refl _, fun _ _ => rfl⟩)⟩
    case neg =>
      have hjc : ¬ ((j : Int) < (l.length : Int)) := by omega
      go_wp2_with fail
      go_ret
      exact ⟨rfl, HB.out⟩
theorem rowT_nil (w w' : World) (hb : Below w.heap.size w w') : RowT w w' (.slice none 0 0) [] := ⟨World.ownsRow_nil _ _ _ _, hb⟩
set_option maxHeartbeats 4000000 in
set_option maxRecDepth 100000 in
theorem xdue_calls {w : World} {T M : Nat} {v : Value} {l : List En} {D : DataW Unit} (h : XA w T M v l D) (hl : l.length ≤ 1000000) {S : List Du} (hS : UpD S) (hp : List.Perm (l.map En.d) S) (now most : Int) (hm1 : -9223372036854775808 ≤ most) (hm2 : most ≤ 9223372036854775807) :
    Calls Try.prog 19 #[.pointer (some ⟨T, 0, none⟩), .int .i64 now, .int .i64 most] w fun e w' => ∃ v, e = .returned v ∧ RowT w w' v ((dueD now most.toNat S).map (·.2)) := by
  have c0 := h.d.c0
  have HF := Lib.hid (first_calls h.d.hp h.hp h.kn hl hS hp now most hm1 hm2)
  obtain ⟨a, c, rfl, -, -, -⟩ := h.d.hp.slice
  have hdl : Hid ((dueD now most.toNat S).length ≤ 1000000) := Lib.hid (by
    have h1 : (dueD now most.toNat S).length ≤ S.length := Nat.le_trans (List.length_take_le' _ _) (List.length_filter_le _ _)
    have h2 := hp.length_eq
    rw [List.length_map] at h2
    omega)
  clear h hS hp
  generalize dueD now most.toNat S = L at *
  go_enter Try.func19, Try.ntmps19
  go_wp2_with fail
  refine HF.out.mono ?_; rintro en w1 ⟨v1, rfl, hR1⟩
  have HB1 := Lib.hid hR1.bel
  obtain ⟨ra, rc, rfl, -, -, hI1⟩ := hR1.slice
  have HI := Lib.hid hI1
  have hdl' := hdl.out
  clear hR1 hI1 HF
  have HR0 := Lib.hid (rowT_nil w1 w1 (Below.refl _ _))
  go_wp2_with fail
  go_loopg [7, 18] (L.length + 1) (fun g v7 vi wr => ∃ j : Nat, vi = .int .i64 j ∧ j ≤ L.length ∧ L.length - j ≤ g ∧ Hid (RowT w1 wr v7 ((L.take j).map (·.2))))
  case atStart => exact ⟨0, rfl, Nat.zero_le _, by omega, HR0⟩
  case round =>
    obtain ⟨j, rfl, hj, hg, HR⟩ := hrel
    clear HR0
    by_cases hjl : j < L.length
    case pos =>
      have hjc : (j : Int) < (L.length : Int) := by omega
      obtain ⟨b, o, rfl, hbl, hat⟩ := HI.out.below (Nat.le_refl _) HR.out.bel (by omega)
      obtain ⟨e0, e1⟩ := hat j hjl
      have HZ : Hid ((L.take j).map (·.2) ++ [L[j].2] = (L.take (j + 1)).map (·.2)) := Lib.hid (by rw [← List.take_append_getElem hjl, List.map_append]; rfl)
      have HLe : Hid (((L.take j).map (·.2)).length ≤ 1000000) := Lib.hid (by rw [List.length_map]; have := List.length_take_le j L; omega)
      clear hat
      generalize L[j].1 = t at *
      generalize L[j].2 = k at *
      generalize hB : (L.take (j + 1)).map (·.2) = B at *
      have HBe := Lib.hid hB
      clear hB
      generalize (L.take j).map (·.2) = A at *
      have HR1 := Lib.hid (HR.out.below (bbox (.cells #[.int .i64 t, .string k] 26)))
      have HR2 := Lib.hid (HR1.out.below (bbox (.cells #[.string k] 9)))
      have HIn : Hid (InT ((wr.alloc (.cells #[.int .i64 t, .string k] 26)).alloc (.cells #[.string k] 9)) (some ⟨wr.heap.size + 1, 0, none⟩) [k]) := Lib.hid (by
        have h := inT_new (wr.alloc (.cells #[.int .i64 t, .string k] 26)) k 9
        rw [show (wr.alloc (.cells #[.int .i64 t, .string k] 26)).heap.size = wr.heap.size + 1 by simp] at h
        exact h)
      go_wp2_with (at_builtin; refine str_push HR2.out rfl _ _ rfl rfl [k] _ rfl rfl HIn.out ?hl ?hr ?_)
      case hl => exact Nat.le_trans HLe.out (Nat.le_of_ble_eq_true rfl)
      case hr => simp
      intro v5 w5 hR5
      have HR5 := Lib.hid hR5
      rw [HZ.out] at HR5
      clear hR5 e0 e1
      go_wp2_with fail
      go_roundg (gk - 1)
      case measure => omega
      case rel => exact ⟨j + 1, by go_num, by omega, by omega, by rw [HBe.out]; exact HR5⟩
    case neg =>
      have hjc : ¬ ((j : Int) < (L.length : Int)) := by omega
      obtain rfl : j = L.length := by omega
      rw [List.take_length] at HR
      go_wp2_with fail
      go_ret
      exact ⟨_, rfl, HR.out.over HB1.out⟩
theorem RowD.over {wa wb w : World} {v : Value} {l : List Du} (h : RowD wb w v l) (hb : Below wa.heap.size wa wb) : RowD wa w v l := by
  refine ⟨⟨h.row.1, ?_⟩, hb.trans (h.bel.mono hb.size)⟩
  rcases h.row.2 with h | ⟨g, cap, cur, h1, h2, h3⟩
  · exact Or.inl h
  · exact Or.inr ⟨g, cap, cur, h1, Nat.le_trans hb.size h2, h3⟩
theorem quietD {P : Program} {f : FuncId} {args : Array Value} {F : Nat → World} {x : Nat} {v : Value} (h : Calls P f args (F x) fun e w' => e = .returned v ∧ F x = w') : Calls P f args (F x) fun e w' => e = .returned v ∧ ∃ y, w' = F y :=
  h.mono fun _ _ ⟨he, hw⟩ => ⟨he, x, hw.symm⟩
set_option maxHeartbeats 4000000 in
set_option maxRecDepth 100000 in
theorem xall_calls {w : World} {T M : Nat} {v : Value} {l : List En} {D : DataW Unit} (h : XA w T M v l D) (hl : l.length ≤ 1000000) {S : List Du} (hS : UpD S) (hp : List.Perm (l.map En.d) S) (ht : ∀ d ∈ S, d.1 ≤ 4611686018427387904) :
    Calls Try.prog 22 #[.pointer (some ⟨T, 0, none⟩)] w fun e w' => ∃ v, e = .returned v ∧ RowD w w' v S := by
  have c0 := h.d.c0
  have hlen : S.length = l.length := by have := hp.length_eq; rw [List.length_map] at this; exact this.symm
  have HF := Lib.hid (fun W (hW : Below w.heap.size w W) => first_calls (h.below hW).d.hp h.hp h.kn hl hS hp 4611686018427387904 (l.length : Int) (by omega) (by omega))
  have HD : Hid (dueD 4611686018427387904 (l.length : Int).toNat S = S) := Lib.hid (by
    unfold dueD
    rw [List.filter_eq_self.2 fun d hd => decide_eq_true (ht d hd), Int.toNat_natCast, List.take_of_length_le (by omega)])
  have HLn := Lib.hid (fun W (hW : Below w.heap.size w W) => xlen_calls (h.below hW))
  obtain ⟨a, c, rfl, -, -, -⟩ := h.d.hp.slice
  clear h hS hp ht
  go_enter Try.func22, Try.ntmps22
  go_wp2_with fail
  obtain ⟨F, hF⟩ : ∃ F : Nat → World, ∀ x, F x = w.drewN x := ⟨fun x => w.drewN x, fun _ => rfl⟩
  have f2 : ∀ x, (F x).cell? ⟨T, 0, none⟩ = some (.slice a l.length c) := fun x => by rw [hF]; exact c0
  have f3 : ∃ x, w.drew = F x := ⟨1, by rw [hF]; rfl⟩
  have HB : Hid (∀ x, Below w.heap.size w (F x)) := Lib.hid fun x => by rw [hF]; exact ⟨rfl, rfl, rfl, Nat.le_refl _, fun _ _ => rfl⟩
  clear hF c0
  refine wp_region_tail F 6 (by kernel_rfl) (by kernel_rfl) f3 ?_
  simp only [List.take_succ_cons, List.take_zero, List.drop_succ_cons, List.drop_zero]
  repeat (go_big_quiet_step ((go_at_call 17; exact quietD (HLn.out _ (HB.out _)))))
  refine wpQuiet_nil ?_
  intro x1
  have HF1 := Lib.hid (HF.out (F x1) (HB.out x1))
  have HB1 := Lib.hid (HB.out x1)
  clear f2 f3 HB HF HLn
  generalize F x1 = W2 at *
  rw [HD.out] at HF1
  go_wp2_with fail
  refine HF1.out.mono ?_; rintro en w3 ⟨v3, rfl, hR⟩
  have HR := Lib.hid hR
  clear hR HF1
  go_wp2_with fail
  go_ret
  exact ⟨_, rfl, HR.out.over HB1.out⟩
end Go.Proofs.Ytabhnnffohnecaa.Ea
