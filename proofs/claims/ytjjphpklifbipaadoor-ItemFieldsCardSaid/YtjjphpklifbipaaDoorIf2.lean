/- ItemFields: what a map says beside fields; Put in one form; two items in boxes beside a map, and its laws. No condition. -/
import Derived.Test.YtjjphpklifbipaaDoorIf1
import Derived.Maps.StringElems
import Derived.Maps.OwnSet
namespace Go.Proofs.YtjjphpklifbipaaDoor.Ia
open Go.ChangeShapes Go.WideShapes Go.ChangeAt Go.RowKit Go.Maps Go.WideMaps
def klit (k : ByteArray) : Lit := .string k.data.toList
theorem klit_ne {a b : ByteArray} (h : a ≠ b) : klit a ≠ klit b := fun e => h (by
  unfold klit at e
  injection e with e
  cases a; cases b
  simpa using e)
theorem klit_key (k : ByteArray) : WideAt.IsKeyLit (klit k) := True.intro
theorem keyed : Keyed Tryd.prog 9 := string_keyed Tryd.underlying9
theorem hkey {k : ByteArray} (h : k.size ≤ maxLen) : keyOf Tryd.prog 9 (.string k) = some (klit k) := keyOf_string_mk Tryd.underlying9 h
theorem zeroS (w : World) : (zeroValue 9).run Tryd.prog w = .ok (.string ⟨#[]⟩) w := by kernel_rfl
theorem ins_size {l : List Fd} (h : Up l) (n t : ByteArray) : (ins n t l).length = if (lk l n).isSome = true then l.length else l.length + 1 := by
  obtain ⟨A, M, B, hs⟩ := split_of n h
  have e := hs.len
  rw [← hs.ins (t := t), hs.lk]
  rcases M_cases hs with rfl | ⟨u, rfl⟩
  · rw [if_neg (show ¬ there ([] : List Fd) = true by decide), if_neg (show ¬ (none : Option ByteArray).isSome = true by decide)]
    simp at e ⊢
    omega
  · rw [if_pos (show there [(n, u)] = true from rfl), if_pos (show (some (txt [(n, u)])).isSome = true from rfl)]
    simp at e ⊢
    omega
/-- A map that says what the fields say. -/
structure KI (l : List Fd) (D : DataW Unit) : Prop where
  ti : Tidy D
  hs : ∀ k, Maps.has D (klit k) = (lk l k).isSome
  av : ∀ k, D.atKey (klit k) (.lit (.string [])) = .lit (.string ((lk l k).getD ⟨#[]⟩).data.toList)
  sz : Maps.size D = l.length
theorem KI.new : KI [] (.map []) := ⟨tidy_empty, fun _ => rfl, fun _ => rfl, rfl⟩
theorem KI.put {l : List Fd} {D : DataW Unit} (h : KI l D) (hU : Up l) (k t : ByteArray) : KI (ins k t l) (D.put (klit k) (.lit (.string t.data.toList))) := by
  refine ⟨h.ti.put (klit_key k) _, fun k' => ?_, fun k' => ?_, ?_⟩
  · rw [lk_ins]
    by_cases hkk : k' = k
    · subst hkk; rw [if_pos rfl, has_put_same h.ti.isMap (klit_key _)]; rfl
    · rw [if_neg (fun e => hkk e.symm), has_put_other (klit_ne hkk)]; exact h.hs k'
  · rw [lk_ins]
    by_cases hkk : k' = k
    · subst hkk; rw [if_pos rfl, atKey_put_same h.ti.isMap (klit_key _)]; rfl
    · rw [if_neg (fun e => hkk e.symm), atKey_put_other (klit_ne hkk)]; exact h.av k'
  · rw [size_put h.ti, h.hs, ins_size hU, h.sz]
/-- Put, where it fits, in one form. -/
theorem put_ins (w : World) (k : Int) (a : Option Addr) (c : Nat) (n t : ByteArray) (l : List Fd) (hU : Up l) (hcap : l.length ≤ c) (hcap2 : c ≤ 9223372036854775807) (hl : l.length ≤ 100) (hI : InF w a l) (hk : k = 0 ∨ k = 2) (h1 : n.size ≤ 512) (h2 : t.size ≤ 4096) :
    Calls Tryd.prog 22 #[.agg #[.int .i64 k, .string ⟨#[]⟩, .slice a l.length c], .string n, .string t] w fun e w' => ∃ v b, e = .returned (.tuple #[v, .bool b, .int .i64 0]) ∧ ItV w' v ⟨2, ⟨#[]⟩, ins n t l⟩ ∧ Below w.heap.size w w' := by
  obtain ⟨A, M, B, hs⟩ := split_of n hU
  refine (put_fits w k ⟨#[]⟩ a c _ n t l A M B hs rfl hcap hcap2 (by omega) hI hk ⟨⟨h1, h2⟩, .inr (by omega)⟩).mono ?_
  rintro e w' ⟨v, rfl, hv, hb⟩
  rw [hs.ins] at hv
  exact ⟨v, _, rfl, hv, hb⟩
/-- Get of a name that is there. -/
theorem get_lk (w : World) (a : Option Addr) (c : Nat) (n t : ByteArray) (l : List Fd) (hU : Up l) (hl : l.length ≤ 100) (hI : InF w a l) (ht : lk l n = some t) :
    Calls Tryd.prog 20 #[.agg #[.int .i64 2, .string ⟨#[]⟩, .slice a l.length c], .string n] w fun e w' => e = .returned (.tuple #[.string t, .bool true, .int .i64 0]) ∧ Below w.heap.size w w' := by
  obtain ⟨A, M, B, hs⟩ := split_of n hU
  have hk := hs.lk
  rw [ht] at hk
  have hg := get_calls w 2 ⟨#[]⟩ a c _ n l A M B hs rfl (by omega) hI (.inr rfl)
  split at hk
  · rename_i hth
    rw [hth, ← Option.some.inj hk] at hg
    exact hg
  · cases hk
theorem map_same {H : Type} {P : Program} {k : TypeId} {R : Value → Option (DataW H × List MemPlace)} {w w' : World} {b n : Nat} {D : DataW H} (h : w.ownsMap P k R b n D) (e : w'.heap[b]? = w.heap[b]?) : w'.ownsMap P k R b n D := by
  obtain ⟨es, clock, hb, F, hs, hD⟩ := h
  exact ⟨es, clock, e.trans hb, F, hs, hD⟩
theorem map_cell {H : Type} {P : Program} {k : TypeId} {R : Value → Option (DataW H × List MemPlace)} {w : World} {b n : Nat} {D : DataW H} (h : w.ownsMap P k R b n D) (j : Nat) : w.cell? ⟨b, j, none⟩ = none := by
  obtain ⟨es, clock, hb, -⟩ := h
  simp [World.cell?, hb]
theorem map_ne {H : Type} {P : Program} {k : TypeId} {R : Value → Option (DataW H × List MemPlace)} {w : World} {b n : Nat} {D : DataW H} (h : w.ownsMap P k R b n D) {x j : Nat} {v : Value} (hc : w.cell? ⟨x, j, none⟩ = some v) : x ≠ b := by
  rintro rfl
  rw [map_cell h] at hc
  cases hc
theorem InF.turn {w w' : World} {a : Option Addr} {l : List Fd} {M : Nat} (h : InF w a l) (hg : w.grownBy w' (some M)) (hm : ∀ x j v, w.cell? ⟨x, j, none⟩ = some v → x ≠ M) : InF w' a l := fun hp => by
  obtain ⟨b, o, rfl, hlt, hc⟩ := h hp
  have hne : b ≠ M := hm b _ _ (hc 0 hp).1
  have e : ∀ j, w'.cell? ⟨b, j, none⟩ = w.cell? ⟨b, j, none⟩ := fun j => World.cell?_of_block (a := ⟨b, j, none⟩) (hg.block b hlt (fun e => hne (by injection e)))
  refine ⟨b, o, rfl, Nat.lt_of_lt_of_le hlt hg.size, fun i hi => ?_⟩
  rw [e, e]
  exact hc i hi
theorem Bx.turn {w w' : World} {N : Nat} {i : It} {a : Option Addr} {c M : Nat} (h : Bx w N i a c) (hg : w.grownBy w' (some M)) (hm : ∀ x j v, w.cell? ⟨x, j, none⟩ = some v → x ≠ M) : Bx w' N i a c := by
  have hne : N ≠ M := hm N _ _ h.cells.c0
  have eb := hg.block N h.cells.lt (fun e => hne (by injection e))
  have e : ∀ j, w'.cell? ⟨N, j, none⟩ = w.cell? ⟨N, j, none⟩ := fun j => World.cell?_of_block (a := ⟨N, j, none⟩) eb
  have ef : ∀ j, w'.frozen? ⟨N, j, none⟩ = w.frozen? ⟨N, j, none⟩ := fun j => World.frozen?_of_block (a := ⟨N, j, none⟩) eb
  exact ⟨⟨Nat.lt_of_lt_of_le h.cells.lt hg.size, (e 0).trans h.cells.c0, (e 1).trans h.cells.c1, (e 2).trans h.cells.c2, fun j hj => (ef j).trans (h.cells.f j hj)⟩, h.inF.turn hg hm, h.cap, h.cap2, fun o ho => (e o).trans (h.top o ho)⟩
/-- Two items in boxes, a map beside them, all of it new since the world o. -/
structure FM (o w : World) (NA NB M : Nat) (ia ib : It) (aa ab : Option Addr) (ca cb : Nat) (D : DataW Unit) (n : Nat) : Prop where
  bel : Below o.heap.size o w
  na : o.heap.size ≤ NA
  nb : o.heap.size ≤ NB
  ne : NA ≠ NB
  xa : Bx w NA ia aa ca
  xb : Bx w NB ib ab cb
  mp : w.ownsMap Tryd.prog 9 (plainElem Tryd.prog 9) M n D
  hm : o.heap.size ≤ M
section
variable {o w w' : World} {NA NB M : Nat} {ia ib : It} {aa ab : Option Addr} {ca cb : Nat} {D : DataW Unit} {n : Nat}
theorem FM.below (h : FM o w NA NB M ia ib aa ab ca cb D n) (hb : Below w.heap.size w w') : FM o w' NA NB M ia ib aa ab ca cb D n :=
  ⟨bstep h.bel hb, h.na, h.nb, h.ne, h.xa.below hb, h.xb.below hb, map_same h.mp (hb.block M h.mp.lt), h.hm⟩
theorem FM.mne (h : FM o w NA NB M ia ib aa ab ca cb D n) : ∀ x j v, w.cell? ⟨x, j, none⟩ = some v → x ≠ M := fun _ _ _ hc => map_ne h.mp hc
theorem FM.turn (h : FM o w NA NB M ia ib aa ab ca cb D n) {D' : DataW Unit} {n' : Nat} (hm : w'.ownsMap Tryd.prog 9 (plainElem Tryd.prog 9) M n' D') (hg : w.grownBy w' (some M)) : FM o w' NA NB M ia ib aa ab ca cb D' n' :=
  ⟨h.bel.grown hg h.bel.size (fun k e => by injection e with e; subst e; exact h.hm), h.na, h.nb, h.ne, h.xa.turn hg h.mne, h.xb.turn hg h.mne, hm, h.hm⟩
theorem set3_below {B : Nat} (h : Below B o w) {N : Nat} (hN : B ≤ N) (u0 u1 u2 : Value) : Below B o (((w.setCell ⟨N, 0, none⟩ u0).setCell ⟨N, 1, none⟩ u1).setCell ⟨N, 2, none⟩ u2) := ((h.setCell (p := ⟨N, 0, none⟩) hN u0).setCell (p := ⟨N, 1, none⟩) hN u1).setCell (p := ⟨N, 2, none⟩) hN u2
theorem set3_heap {N : Nat} (hne : M ≠ N) (u0 u1 u2 : Value) : (((w.setCell ⟨N, 0, none⟩ u0).setCell ⟨N, 1, none⟩ u1).setCell ⟨N, 2, none⟩ u2).heap[M]? = w.heap[M]? :=
  ((Below.heap_setCell _ ⟨N, 2, none⟩ u2 M hne).trans (Below.heap_setCell _ ⟨N, 1, none⟩ u1 M hne)).trans (Below.heap_setCell _ ⟨N, 0, none⟩ u0 M hne)
theorem FM.setA (h : FM o w NA NB M ia ib aa ab ca cb D n) {j : It} {a2 : Option Addr} {c2 : Nat} (hI : InF w a2 j.l) (h1 : j.l.length ≤ c2) (h2 : c2 ≤ 9223372036854775807) :
    FM o (((w.setCell ⟨NA, 0, none⟩ (.int .i64 j.k)).setCell ⟨NA, 1, none⟩ (.string j.t)).setCell ⟨NA, 2, none⟩ (.slice a2 j.l.length c2)) NA NB M j ib a2 ab c2 cb D n :=
  ⟨set3_below h.bel h.na _ _ _, h.na, h.nb, h.ne, h.xa.set hI h1 h2, h.xb.other h.xa (fun e => h.ne e.symm) _ _ _, map_same h.mp (set3_heap (fun e => h.mne _ _ _ h.xa.cells.c0 e.symm) _ _ _), h.hm⟩
theorem FM.setB (h : FM o w NA NB M ia ib aa ab ca cb D n) {j : It} {a2 : Option Addr} {c2 : Nat} (hI : InF w a2 j.l) (h1 : j.l.length ≤ c2) (h2 : c2 ≤ 9223372036854775807) :
    FM o (((w.setCell ⟨NB, 0, none⟩ (.int .i64 j.k)).setCell ⟨NB, 1, none⟩ (.string j.t)).setCell ⟨NB, 2, none⟩ (.slice a2 j.l.length c2)) NA NB M ia j aa a2 ca c2 D n :=
  ⟨set3_below h.bel h.nb _ _ _, h.na, h.nb, h.ne, h.xa.other h.xb h.ne _ _ _, h.xb.set hI h1 h2, map_same h.mp (set3_heap (fun e => h.mne _ _ _ h.xb.cells.c0 e.symm) _ _ _), h.hm⟩
/-- 'last[k] = t'. -/
theorem now_put (h : FM o w NA NB M ia ib aa ab ca cb D n) (hn : n ≤ 1000) {ops : Array Oper} {rest : List Oper} {oo : Oper} {a : Act} {Q : Exit → Act → World → Prop} (hg : oo.guard = none) (m x v : Operand) (hop : oo.op = Op.mapUpdate 52 m x v) (hm : a.eval m = .map (some M)) (k : ByteArray) (hx : a.eval x = .string k) (hk1 : k.size ≤ 1000) (t : ByteArray) (hv : a.eval v = .string t) (ht : t.size ≤ 10000)
    (hK : ∀ w', FM o w' NA NB M ia ib aa ab ca cb (D.put (klit k) (.lit (.string t.data.toList))) (n + 1) → w.grownBy w' (some M) → wpList Tryd.prog ops Q rest (a.put oo.dst undef) w') : wpList Tryd.prog ops Q (oo :: rest) a w := by
  refine wpList_mapUpdate_own _ hg m x v _ hop 9 9 keyed Tryd.underlying52 (plainElem Tryd.prog 9) M n D hm h.mp (by unfold maxLen; omega) _ _ _ hx hv (hkey (by unfold maxLen; omega)) (.lit (.string t.data.toList)) [] (plainElem_string Tryd.underlying9 (by unfold maxLen; omega)) ?_
  intro w' hm' hg'
  exact hK w' (h.turn hm' hg') hg'
/-- 'last[k]' as an equation on the run. -/
theorem look_run (h : FM o w NA NB M ia ib aa ab ca cb D n) {l : List Fd} (hD : KI l D) (k : ByteArray) (hk1 : k.size ≤ 1000) : (Instr.lookup 52 (.map (some M)) (.string k) false).run Tryd.prog w = .ok (.string ((lk l k).getD ⟨#[]⟩)) w := by
  obtain ⟨v, ps, hrun, hv⟩ := h.mp.lookup (t := 52) (e := 9) keyed Tryd.underlying52 (zeroS _) (zd := .lit (.string [])) (zp := []) (plainElem_string (s := ⟨#[]⟩) Tryd.underlying9 (Nat.zero_le _)) (key := .string k) (hkey (by unfold maxLen; omega))
  obtain ⟨s, rfl, hs, -⟩ := plainElem_string_inv Tryd.underlying9 hv
  have hs := congrArg Prod.fst hs
  simp only [hD.av, DataW.lit.injEq, Lit.string.injEq] at hs
  have e : ((lk l k).getD ⟨#[]⟩) = s := by
    generalize (lk l k).getD ⟨#[]⟩ = x at *
    cases x; cases s
    simpa using hs
  rw [e]
  exact hrun
/-- 'len(last)'. -/
theorem now_len (h : FM o w NA NB M ia ib aa ab ca cb D n) {ops : Array Oper} {rest : List Oper} {oo : Oper} {a : Act} {Q : Exit → Act → World → Prop} (hg : oo.guard = none) (m : Operand) (hop : oo.op = Op.call { callee := Callee.builtin Builtin.len, args := #[m], argTypes := #[52] }) (hm : a.eval m = .map (some M))
    (hK : wpList Tryd.prog ops Q rest (a.put oo.dst (.int .i64 (Maps.size D : Nat))) w) : wpList Tryd.prog ops Q (oo :: rest) a w :=
  wpList_len_own _ hg m _ hop 9 9 Tryd.underlying52 (plainElem Tryd.prog 9) M n D hm h.mp hK
/-- The range's step where keys and elements are texts. -/
theorem next_ss {b r n : Nat} {D : DataW Unit} {left : Lit → Bool} {cnt : Nat} {ops : Array Oper} {rest : List Oper} {oo : Oper} {a : Act} {Q : Exit → Act → World → Prop} (hg : oo.guard = none) (it : Operand) (hop : oo.op = Op.next it false) (hit : a.eval it = .pointer (some ⟨r, 0, none⟩)) (h : w.ranges Tryd.prog 9 (plainElem Tryd.prog 9) b r n D left cnt)
    (hDone : wpList Tryd.prog ops Q rest (a.put oo.dst (.tuple #[.bool false])) w)
    (hMore : ∀ (x c : ByteArray) (w' : World) (cnt' : Nat), left (klit x) = true → (∀ zd, D.atKey (klit x) zd = .lit (.string c.data.toList)) → w'.ranges Tryd.prog 9 (plainElem Tryd.prog 9) b r n D (fun z => left z && !z.sameKey (klit x)) cnt' → cnt' < cnt →
      w.grownBy w' (some r) → w'.heap.size = w.heap.size → (Instr.entry (.pointer (some ⟨r, 0, none⟩))).run Tryd.prog w' = .ok (.tuple #[.string x, .string c]) w' → wpList Tryd.prog ops Q rest (a.put oo.dst (.tuple #[.bool true, .string x, .string c])) w') : wpList Tryd.prog ops Q (oo :: rest) a w := by
  refine wpList_next_ranges w hg it hop 9 keyed (plainElem Tryd.prog 9) Value.string Value.string (fun key kl hk => by
      cases key <;> simp [keyOf, Tryd.underlying9, mapKey] at hk
      exact ⟨_, rfl⟩) (fun v y hv => by obtain ⟨c, rfl, _⟩ := plainElem_string_inv Tryd.underlying9 hv; exact ⟨c, rfl⟩) b r n D left cnt hit h (fun _ _ => hDone) (fun x c kl y w' cnt' hk hlk hv hat hrg hlt hgr hsz hen => ?_)
  obtain ⟨c', ec, rfl, -⟩ := plainElem_string_inv Tryd.underlying9 hv
  cases ec
  have e : kl = klit x := by
    simp [keyOf, Tryd.underlying9, mapKey] at hk
    exact hk.2.symm
  subst e
  exact hMore x c w' cnt' hlk hat hrg hlt hgr hsz hen
end
end Go.Proofs.YtjjphpklifbipaaDoor.Ia
