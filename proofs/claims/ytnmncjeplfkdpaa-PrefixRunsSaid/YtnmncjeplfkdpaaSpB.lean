/- Things of a list, one taken out and put back; rows and maps as a map's elements; maps from numbers as things. Of no program, no condition. -/
import Derived.Test.YtnmncjeplfkdpaaSp4
import Derived.Laws.IdiomCopy
namespace Go.Proofs.Ytnmncjeplfkdpaa.Sp
set_option linter.unusedVariables false
set_option linter.unusedSimpArgs false
open Go.ChangeShapes Go.WideShapes Go.ChangeAt Go.RowKit Go.Maps Go.WideMaps
section
variable {o w w' wb : World} {l A B : List Th} {t s : Th}
theorem mid_perm (A B l : List Th) (t : Th) : List.Perm ((A ++ t :: B) ++ l) ((A ++ B) ++ t :: l) := by
  have h1 : List.Perm ((A ++ t :: B) ++ l) (t :: (A ++ B ++ l)) := by
    rw [List.append_assoc, List.cons_append, List.append_assoc]
    exact List.perm_middle
  exact h1.trans List.perm_middle.symm
theorem Hp.starMid (h : Hp o w (star (A ++ t :: B) :: l)) : Hp o w (t :: star (A ++ B) :: l) := (h.open.perm (mid_perm A B l t)).shut.perm (List.Perm.swap ..)
theorem Hp.starBack (h : Hp o w (t :: star (A ++ B) :: l)) : Hp o w (star (A ++ t :: B) :: l) := ((h.perm (List.Perm.swap ..)).open.perm (mid_perm A B l t).symm).shut
theorem Hp.starNil (h : Hp o w l) : Hp o w (star [] :: l) := Hp.shut h
theorem Hp.starEnd (h : Hp o w (t :: star A :: l)) : Hp o w (star (A ++ [t]) :: l) := by
  have h : Hp o w (t :: star (A ++ []) :: l) := by rw [List.append_nil]; exact h
  exact h.starBack
theorem Hp.starHead (h : Hp o w (star (t :: B) :: l)) : Hp o w (t :: star B :: l) := Hp.starMid (A := []) h
theorem Hp.swap (h : Hp o w (t :: s :: l)) : Hp o w (s :: t :: l) := h.perm (List.Perm.swap ..)
end
/-- A slice as a map's element. -/
structure Sl where
  a : Option Addr
  n : Nat
  c : Nat
def encSl (x : Sl) : Value := .slice x.a x.n x.c
def litAd : Option Addr → DataW Unit
  | none => .nil
  | some p => .agg [.lit (.int .i64 p.block), .lit (.int .i64 p.off), .lit (.int .i64 (match p.spot with | none => -1 | some n => n))]
def litSl (x : Sl) : DataW Unit := .agg [litAd x.a, .lit (.int .i64 x.n), .lit (.int .i64 x.c)]
theorem litAd_inj : ∀ {p q : Option Addr}, litAd p = litAd q → p = q
  | none, none, _ => rfl
  | none, some q, h => by unfold litAd at h; cases h
  | some p, none, h => by unfold litAd at h; cases h
  | some p, some q, h => by
    unfold litAd at h
    injection h with h
    injection h with a1 h
    injection h with a2 h
    injection h with a3 _
    injection a1 with a1; injection a1 with _ a1
    injection a2 with a2; injection a2 with _ a2
    injection a3 with a3; injection a3 with _ a3
    obtain ⟨b, o, s⟩ := p
    obtain ⟨b', o', s'⟩ := q
    simp only at a1 a2 a3
    obtain rfl : b = b' := by omega
    obtain rfl : o = o' := by omega
    cases s with
    | none => cases s' with
      | none => rfl
      | some n => simp only at a3; omega
    | some m => cases s' with
      | none => simp only at a3; omega
      | some n =>
        simp only at a3
        obtain rfl : m = n := by omega
        rfl
theorem litSl_inj {x y : Sl} (h : litSl x = litSl y) : x = y := by
  unfold litSl at h
  injection h with h
  injection h with a1 h
  injection h with a2 h
  injection h with a3 _
  injection a2 with a2; injection a2 with _ a2
  injection a3 with a3; injection a3 with _ a3
  replace a1 := litAd_inj a1
  obtain ⟨a, n, c⟩ := x
  obtain ⟨a', n', c'⟩ := y
  simp only at a1 a2 a3
  obtain rfl : n = n' := by omega
  obtain rfl : c = c' := by omega
  subst a1
  rfl
def readSl : Value → Option (DataW Unit × List MemPlace)
  | .slice a n c => some (litSl ⟨a, n, c⟩, [])
  | _ => none
def slEl (P : Program) (e : TypeId) (hz : ∀ w, (zeroValue e).run P w = .ok (.slice none 0 0) w) : El P e Sl :=
  ⟨readSl, encSl, litSl, fun _ => True, fun x _ => rfl,
   fun v z h => by
     unfold readSl at h
     split at h
     · exact ⟨_, True.intro, rfl, by rw [← Option.some.inj h]⟩
     · exact (nomatch h),
   fun _ _ h => litSl_inj h, ⟨none, 0, 0⟩, True.intro, hz⟩
/-- A map as a map's element. -/
def encMp (x : Option Nat) : Value := .map x
def litMp : Option Nat → DataW Unit
  | none => .nil
  | some b => .lit (.int .i64 b)
def readMp : Value → Option (DataW Unit × List MemPlace)
  | .map x => some (litMp x, [])
  | _ => none
theorem litMp_inj : ∀ {x y : Option Nat}, litMp x = litMp y → x = y
  | none, none, _ => rfl
  | none, some _, h => by unfold litMp at h; cases h
  | some _, none, h => by unfold litMp at h; cases h
  | some a, some b, h => by
    unfold litMp at h
    injection h with h; injection h with _ h
    obtain rfl : a = b := by omega
    rfl
def mpEl (P : Program) (e : TypeId) (hz : ∀ w, (zeroValue e).run P w = .ok (.map none) w) : El P e (Option Nat) :=
  ⟨readMp, encMp, litMp, fun _ => True, fun x _ => rfl,
   fun v z h => by
     unfold readMp at h
     split at h
     · exact ⟨_, True.intro, rfl, by rw [← Option.some.inj h]⟩
     · exact (nomatch h),
   fun _ _ h => litMp_inj h, none, True.intro, hz⟩
/-! Maps from numbers. -/
def nlit (k : Int) : Lit := .int .i64 k
theorem nlit_ne {a b : Int} (h : a ≠ b) : nlit a ≠ nlit b := fun e => h (by unfold nlit at e; injection e)
theorem nlit_key (k : Int) : WideAt.IsKeyLit (nlit k) := True.intro
section
variable {P : Program} {kt e T : TypeId} {α : Type} {L : El P e α}
structure MJ (L : El P e α) (g : Int → Option α) (D : DataW Unit) (n : Nat) : Prop where
  ti : Tidy D
  hs : ∀ k, Maps.has D (nlit k) = (g k).isSome
  sz : Maps.size D = n
def setN (g : Int → Option α) (k : Int) (v : Option α) : Int → Option α := fun x => if x = k then v else g x
theorem MJ.new : MJ L (fun _ => none) (.map []) 0 := ⟨tidy_empty, fun _ => rfl, rfl⟩
theorem MJ.put {g : Int → Option α} {D : DataW Unit} {n : Nat} (h : MJ L g D n) (k : Int) (x : α) : MJ L (setN g k (some x)) (D.put (nlit k) (L.lit x)) (n + if (g k).isSome = true then 0 else 1) := by
  refine ⟨h.ti.put (nlit_key k) _, fun k' => ?_, ?_⟩
  · unfold setN
    by_cases e : k' = k
    · subst e; rw [if_pos rfl, has_put_same h.ti.isMap (nlit_key _)]; rfl
    · rw [if_neg e, has_put_other (nlit_ne e)]; exact h.hs k'
  · rw [size_put h.ti, h.hs, h.sz]
    cases (g k).isSome <;> rfl
theorem MJ.del {g : Int → Option α} {D : DataW Unit} {n : Nat} (h : MJ L g D n) (k : Int) : MJ L (setN g k none) (D.del (nlit k)) (n - if (g k).isSome = true then 1 else 0) := by
  refine ⟨h.ti.del _, fun k' => ?_, ?_⟩
  · unfold setN
    by_cases e : k' = k
    · subst e; rw [if_pos rfl, has_del_same]; rfl
    · rw [if_neg e, has_del_other (nlit_ne e)]; exact h.hs k'
  · have e := size_del (k := nlit k) h.ti
    rw [h.hs, h.sz] at e
    omega
/-- A map from numbers that says g, of n keys; c: how often it was put to. -/
def jmapT (kt : TypeId) (L : El P e α) (M n c : Nat) (g : Int → Option α) : Th :=
  ⟨fun O _ w => (∀ x, O x ↔ x = M) ∧ ∃ D, w.ownsMap P kt L.R M c D ∧ MJ L g D n,
   fun {O R w} ⟨ho, D, h, _⟩ x hx => by rw [(ho x).1 hx]; exact h.lt,
   fun {O R R' w w'} ⟨ho, D, h, hM⟩ _ _ _ hb => ⟨ho, D, map_same h (hb M (.inl ((ho M).2 rfl))), hM⟩⟩
variable {o w w' wb : World} {l : List Th} {M n c r cnt : Nat} {g : Int → Option α}
theorem Hp.jmapNew (h : Hp o w l) (kt : TypeId) (L : El P e α) : Hp o (w.alloc (.map #[] 0)) (jmapT kt L w.heap.size 0 0 (fun _ => none) :: l) := by
  have hs : (w.alloc (.map #[] 0)).heap.size = w.heap.size + 1 := by simp
  refine h.add (bbox _) (ts := [jmapT kt L w.heap.size 0 0 (fun _ => none)]) fun {R} hR => ⟨fun x => x = w.heap.size, R, ⟨_, fun _ => False, ⟨fun x => Iff.rfl, .map [], World.ownsMap_made w P kt L.R, MJ.new⟩, fun _ h => h, fun _ _ h => h, fun x => by simp⟩, fun x hx => ⟨by omega, fun hr => by have := hR x hr; omega⟩, fun _ h => h, fun x hx => ⟨.inl hx, by have := hR x hx; omega⟩⟩
theorem Hp.jmapTurn {D D' : DataW Unit} {n' c' : Nat} {g' : Int → Option α} (h : Hp o w (jmapT kt L M n c g :: l)) (hw : w'.ownsMap P kt L.R M c' D') (hM : MJ L g' D' n') (hg : w.grownBy w' (some M)) : Hp o w' (jmapT kt L M n' c' g' :: l) :=
  (h.moved (Below.refl _ _) (ts := [jmapT kt L M n' c' g']) fun {A R} k hA hR hAR => mvd1 (A' := A) ⟨k.1, D', hw, hM⟩ (fr_grown hg ((k.1 M).2 rfl)) hR hAR fun x hx => .inl hx).1
theorem Hp.jmapLen (h : Hp o w (jmapT kt L M n c g :: l)) (hT : P.underlying T = some (.map kt e)) (ty : TypeId) : (Builtin.len_ #[T] ty #[.map (some M)]).run P w = .ok (.int .i64 n) w :=
  h.say fun {A R} hp _ _ => by
    obtain ⟨-, D, hm, hM⟩ := hp
    rw [← hM.sz]
    exact hm.len hT ty
section
variable {ops : Array Oper} {rest : List Oper} {oo : Oper} {a : Act} {Q : Exit → Act → World → Prop}
theorem Hp.jmapPut (h : Hp o w (jmapT kt L M n c g :: l)) (hg : oo.guard = none) (m x v : Operand) (T : TypeId) (hop : oo.op = Op.mapUpdate T m x v) (hk0 : P.underlying kt = some (.int .i64)) (hT : P.underlying T = some (.map kt e)) (hm : a.eval m = .map (some M)) (k : Int) (hx : a.eval x = .int .i64 k) (hk : (Lit.int .i64 k).wf = true) (z : α) (hv : a.eval v = L.enc z) (hz : L.ok z) (hc : c < maxLen) (n2 : Nat) (hn2 : (n + if (g k).isSome = true then 0 else 1) = n2)
    (K : ∀ w', Hp o w' (jmapT kt L M n2 (c + 1) (setN g k (some z)) :: l) → wpList P ops Q rest (a.put oo.dst undef) w') : wpList P ops Q (oo :: rest) a w := by
  subst hn2
  have h' := h
  obtain ⟨D, hm', hM⟩ : ∃ D, w.ownsMap P kt L.R M c D ∧ MJ L g D n := h.say fun {A R} hp _ _ => hp.2
  refine wpList_mapUpdate_in w hg m x v T hop kt e (int_keyed hk0) hT L.R M c D hm hm' hc _ _ _ hx hv (keyOf_int_mk hk0 hk) _ [] (L.reads z hz) ?_
  intro w' hw' ht
  exact K w' (h'.jmapTurn (D := D) hw' (hM.put k z) ht.grown)
theorem Hp.jmapDel (h : Hp o w (jmapT kt L M n c g :: l)) (hg : oo.guard = none) (m x : Operand) (T kt' : TypeId) (hop : oo.op = Op.call { callee := Callee.builtin Builtin.delete, args := #[m, x], argTypes := #[T, kt'] }) (hkt : kt' = kt) (hk0 : P.underlying kt = some (.int .i64)) (hT : P.underlying T = some (.map kt e)) (hm : a.eval m = .map (some M)) (k : Int) (hx : a.eval x = .int .i64 k) (hk : (Lit.int .i64 k).wf = true) (n2 : Nat) (hn2 : (n - if (g k).isSome = true then 1 else 0) = n2)
    (K : ∀ w', Hp o w' (jmapT kt L M n2 c (setN g k none) :: l) → wpList P ops Q rest (a.put oo.dst (.tuple #[])) w') : wpList P ops Q (oo :: rest) a w := by
  subst hkt
  subst hn2
  have h' := h
  obtain ⟨D, hm', hM⟩ : ∃ D, w.ownsMap P kt' L.R M c D ∧ MJ L g D n := h.say fun {A R} hp _ _ => hp.2
  refine wpList_delete_own w hg m x T kt' hop e (int_keyed hk0) hT L.R M c D hm hm' _ _ hx (keyOf_int_mk hk0 hk) ?_
  intro w' hw' ht
  exact K w' (h'.jmapTurn (D := D) hw' (hM.del k) ht.grown)
end
end
end Go.Proofs.Ytnmncjeplfkdpaa.Sp
/- Rows that grow, further: all of a row's room, many cells written at once; a map put to, as an equation on its run. Of no program, no condition but bounds. -/
namespace Go.Proofs.Ytnmncjeplfkdpaa.Sp
set_option linter.unusedVariables false
set_option linter.unusedSimpArgs false
open Go.ChangeShapes Go.WideShapes Go.ChangeAt Go.RowKit Go.Maps Go.WideMaps
section
variable {o w w' wb : World} {l : List Th} {e : TypeId} {size n cap g : Nat} {v : Value} {xs : List Value}
/-- A row with all its room. -/
theorem Hp.rowFull (h : Hp o w (rowT e size (.slice (some ⟨g, 0, none⟩) n cap) n xs :: l)) : ∃ ys, xs.length = n * size ∧ (xs ++ ys).length = cap * size ∧ n ≤ cap ∧ cap ≤ maxLen ∧ w.heap[g]? = some (.cells (xs ++ ys).toArray e (0, 0)) ∧ Hp o w (rowT e size (.slice (some ⟨g, 0, none⟩) cap cap) cap (xs ++ ys) :: l) := by
  have hr := h.row
  have hlen := hr.1
  rcases hr.2 with ⟨h0, -⟩ | ⟨g', cap', cur, h0, -, hb, h1, h2, h3, h4⟩
  · injection h0 with h0; cases h0
  · injection h0 with e1 e2 e3
    injection e1 with e1
    injection e1 with e1
    subst e1 e3
    have hcur : xs ++ cur.toList.drop (n * size) = cur.toList := by rw [← h4, List.take_append_drop]
    have harr : (xs ++ cur.toList.drop (n * size)).toArray = cur := by rw [hcur]
    refine ⟨cur.toList.drop (n * size), hlen, by rw [hcur, Array.length_toList, h3], h1, h2, by rw [harr]; exact hb, (h.moved (Below.refl _ _) (ts := [rowT e size (.slice (some ⟨g, 0, none⟩) cap cap) cap (xs ++ cur.toList.drop (n * size))]) fun {A R} k hA hR hAR => ?_).1⟩
    refine mvd1 (A' := A) ⟨k.1, ?_⟩ (Fr.refl w) hR hAR fun x hx => .inl hx
    refine ⟨by rw [hcur, Array.length_toList, h3], .inr ⟨g, cap, cur, rfl, Nat.zero_le _, hb, Nat.le_refl _, h2, h3, ?_⟩⟩
    rw [hcur, ← h3, ← Array.length_toList, List.take_length]
theorem set_split (xs vs : List Value) (v : Value) (o' : Nat) (h : o' + (vs.length + 1) ≤ xs.length) : (xs.set o' v).take (o' + 1) ++ vs ++ (xs.set o' v).drop (o' + 1 + vs.length) = xs.take o' ++ (v :: vs) ++ xs.drop (o' + (vs.length + 1)) := by
  have h1 : (xs.set o' v).take (o' + 1) = xs.take o' ++ [v] := by
    rw [List.take_set, List.take_add_one, List.getElem?_eq_getElem (by omega)]
    simp only [Option.toList_some]
    rw [List.set_append_right _ _ (by rw [List.length_take]; omega)]
    congr 1
    rw [List.length_take, Nat.min_eq_left (by omega), Nat.sub_self]; rfl
  have h2 : (xs.set o' v).drop (o' + 1 + vs.length) = xs.drop (o' + (vs.length + 1)) := by
    rw [List.drop_set_of_lt (by omega), show o' + 1 + vs.length = o' + (vs.length + 1) by omega]
  rw [h1, h2]
  simp
/-- Many cells of a row, written. -/
theorem Hp.rowCells : ∀ (vs : List Value) (o' : Nat) {w : World} {xs : List Value}, Hp o w (rowT e size (.slice (some ⟨g, 0, none⟩) n cap) n xs :: l) → o' + vs.length ≤ xs.length → Hp o (w.setCells g o' vs) (rowT e size (.slice (some ⟨g, 0, none⟩) n cap) n (xs.take o' ++ vs ++ xs.drop (o' + vs.length)) :: l)
  | [], o', w, xs, h, _ => by
    rw [List.append_nil, List.length_nil, Nat.add_zero, List.take_append_drop]
    exact h
  | v :: vs, o', w, xs, h, hl => by
    have h1 := Hp.rowCells vs (o' + 1) (h.rowSet o' v) (by rw [List.length_set]; simp only [List.length_cons] at hl; omega)
    rw [set_split xs vs v o' (by simpa using hl)] at h1
    exact h1
/-- A row that was laid out whole. -/
theorem Hp.rowLit (h : Hp o w l) (cs : Array Value) (m : Nat) (hm : m ≤ maxLen) (hs : cs.size = m * size) (e : TypeId) : Hp o (w.alloc (.cells cs e)) (rowT e size (.slice (some ⟨w.heap.size, 0, none⟩) m m) m cs.toList :: l) :=
  h.rowAdd (bbox _) (World.ownsRow_lit w cs m (Nat.le_refl _) hm hs) (Nat.le_refl _)
/-- A row's room is not looked at. -/
theorem Hp.rowCap (h : Hp o w (rowT e size (.slice (some ⟨g, 0, none⟩) cap cap) cap xs :: l)) (m : Nat) (hm : m ≤ cap) {zs : List Value} (hz : xs.take (m * size) = zs) : Hp o w (rowT e size (.slice (some ⟨g, 0, none⟩) m cap) m zs :: l) := hz ▸ h.rowCut m hm
end
/-- The things at these places to the front, in this order; the places are those of the list as it stands. -/
def selF : Nat → List Nat → List Th → Option (List Th)
  | 0, _, l => some l
  | _ + 1, [], l => some l
  | n + 1, i :: is, l => match l[i]? with
    | none => none
    | some t => (selF n (is.map fun j => if Nat.blt i j then Nat.pred j else j) (l.eraseIdx i)).map (t :: ·)
theorem selF_perm : ∀ (n : Nat) (is : List Nat) (l m : List Th), selF n is l = some m → List.Perm l m
  | 0, _, l, m, h => by injection h with h; subst h; exact List.Perm.refl _
  | _ + 1, [], l, m, h => by injection h with h; subst h; exact List.Perm.refl _
  | n + 1, i :: is, l, m, h => by
    unfold selF at h
    cases ht : l[i]? with
    | none => rw [ht] at h; cases h
    | some t =>
      rw [ht] at h
      cases hr : selF n (is.map fun j => if Nat.blt i j then Nat.pred j else j) (l.eraseIdx i) with
      | none => simp only [hr] at h; cases h
      | some r =>
        simp only [hr] at h
        injection h with h
        subst h
        exact (pull_perm i l t ht).trans ((selF_perm n _ _ _ hr).cons t)
theorem Hp.sel {o w : World} {l : List Th} (h : Hp o w l) (is : List Nat) {m : List Th} (hm : selF 12 is l = some m) : Hp o w m := h.perm (selF_perm _ _ _ _ hm)
section
variable {P : Program} {kt e T : TypeId} {α : Type} {L : El P e α} {o w w' wb : World} {l : List Th} {M n c : Nat} {g : ByteArray → Option α}
theorem Hp.mapPutRun (h : Hp o w (mapT kt L M n c g :: l)) (hk0 : P.underlying kt = some .string) (hT : P.underlying T = some (.map kt e)) (k : ByteArray) (hk : k.size ≤ maxLen) (z : α) (hz : L.ok z) (hc : c < maxLen) (n2 : Nat) (hn2 : (n + if (g k).isSome = true then 0 else 1) = n2) :
    ∃ w', (Instr.mapUpdate T (.map (some M)) (.string k) (L.enc z)).run P w = .ok () w' ∧ Hp o w' (mapT kt L M n2 (c + 1) (setG g k (some z)) :: l) := by
  subst hn2
  obtain ⟨D, hm', hM⟩ : ∃ D, w.ownsMap P kt L.R M c D ∧ MI L g D n := h.say fun {A R} hp _ _ => hp.2
  obtain ⟨w', hr, hw', hg⟩ := hm'.update (t := T) (e := e) (string_keyed hk0) hT hc (keyOf_string_mk hk0 hk) (L.reads z hz)
  exact ⟨w', hr, h.mapTurn (D := D) hw' (hM.put k z hz) hg⟩
end
end Go.Proofs.Ytnmncjeplfkdpaa.Sp
/- Maps from numbers as things, with what they say. Of no program, no condition. -/
namespace Go.Proofs.Ytnmncjeplfkdpaa.Sp
set_option linter.unusedVariables false
set_option linter.unusedSimpArgs false
open Go.ChangeShapes Go.WideShapes Go.ChangeAt Go.RowKit Go.Maps Go.WideMaps
theorem setN_same {α : Type} (g : Int → Option α) (k : Int) (v : Option α) : setN g k v k = v := if_pos rfl
theorem setN_ne {α : Type} {g : Int → Option α} {k x : Int} {v : Option α} (h : x ≠ k) : setN g k v x = g x := if_neg h
section
variable {P : Program} {kt e T : TypeId} {α : Type} {L : El P e α}
structure MN (L : El P e α) (g : Int → Option α) (D : DataW Unit) (n : Nat) : Prop where
  ti : Tidy D
  hs : ∀ k, Maps.has D (nlit k) = (g k).isSome
  av : ∀ k zd, D.atKey (nlit k) zd = ((g k).map L.lit).getD zd
  ok : ∀ k x, g k = some x → L.ok x
  sz : Maps.size D = n
theorem MN.new : MN L (fun _ => none) (.map []) 0 := ⟨tidy_empty, fun _ => rfl, fun _ _ => rfl, fun _ _ h => (by cases h), rfl⟩
theorem MN.put {g : Int → Option α} {D : DataW Unit} {n : Nat} (h : MN L g D n) (k : Int) (x : α) (hx : L.ok x) : MN L (setN g k (some x)) (D.put (nlit k) (L.lit x)) (n + if (g k).isSome = true then 0 else 1) := by
  refine ⟨h.ti.put (nlit_key k) _, fun k' => ?_, fun k' zd => ?_, fun k' y hy => ?_, ?_⟩
  · unfold setN
    by_cases e : k' = k
    · subst e; rw [if_pos rfl, has_put_same h.ti.isMap (nlit_key _)]; rfl
    · rw [if_neg e, has_put_other (nlit_ne e)]; exact h.hs k'
  · unfold setN
    by_cases e : k' = k
    · subst e; rw [if_pos rfl, atKey_put_same h.ti.isMap (nlit_key _)]; rfl
    · rw [if_neg e, atKey_put_other (nlit_ne e)]; exact h.av k' zd
  · unfold setN at hy
    by_cases e : k' = k
    · rw [if_pos e] at hy; injection hy with hy; subst hy; exact hx
    · rw [if_neg e] at hy; exact h.ok k' y hy
  · rw [size_put h.ti, h.hs, h.sz]
    cases (g k).isSome <;> rfl
theorem MN.del {g : Int → Option α} {D : DataW Unit} {n : Nat} (h : MN L g D n) (k : Int) : MN L (setN g k none) (D.del (nlit k)) (n - if (g k).isSome = true then 1 else 0) := by
  refine ⟨h.ti.del _, fun k' => ?_, fun k' zd => ?_, fun k' y hy => ?_, ?_⟩
  · unfold setN
    by_cases e : k' = k
    · subst e; rw [if_pos rfl, has_del_same]; rfl
    · rw [if_neg e, has_del_other (nlit_ne e)]; exact h.hs k'
  · unfold setN
    by_cases e : k' = k
    · subst e; rw [if_pos rfl, atKey_del_same]; rfl
    · rw [if_neg e, atKey_del_other (nlit_ne e)]; exact h.av k' zd
  · unfold setN at hy
    by_cases e : k' = k
    · rw [if_pos e] at hy; cases hy
    · rw [if_neg e] at hy; exact h.ok k' y hy
  · have e := size_del (k := nlit k) h.ti
    rw [h.hs, h.sz] at e
    omega
/-- A map from numbers that says g, of n keys; c: how often it was put to. -/
def nmapT (kt : TypeId) (L : El P e α) (M n c : Nat) (g : Int → Option α) : Th :=
  ⟨fun O _ w => (∀ x, O x ↔ x = M) ∧ ∃ D, w.ownsMap P kt L.R M c D ∧ MN L g D n,
   fun {O R w} ⟨ho, D, h, _⟩ x hx => by rw [(ho x).1 hx]; exact h.lt,
   fun {O R R' w w'} ⟨ho, D, h, hM⟩ _ _ _ hb => ⟨ho, D, map_same h (hb M (.inl ((ho M).2 rfl))), hM⟩⟩
variable {o w w' wb : World} {l : List Th} {M n c r cnt : Nat} {g : Int → Option α}
theorem Hp.nmapNew (h : Hp o w l) (kt : TypeId) (L : El P e α) : Hp o (w.alloc (.map #[] 0)) (nmapT kt L w.heap.size 0 0 (fun _ => none) :: l) := by
  have hs : (w.alloc (.map #[] 0)).heap.size = w.heap.size + 1 := by simp
  refine h.add (bbox _) (ts := [nmapT kt L w.heap.size 0 0 (fun _ => none)]) fun {R} hR => ⟨fun x => x = w.heap.size, R, ⟨_, fun _ => False, ⟨fun x => Iff.rfl, .map [], World.ownsMap_made w P kt L.R, MN.new⟩, fun _ h => h, fun _ _ h => h, fun x => by simp⟩, fun x hx => ⟨by omega, fun hr => by have := hR x hr; omega⟩, fun _ h => h, fun x hx => ⟨.inl hx, by have := hR x hx; omega⟩⟩
theorem Hp.nmapTurn {D D' : DataW Unit} {n' c' : Nat} {g' : Int → Option α} (h : Hp o w (nmapT kt L M n c g :: l)) (hw : w'.ownsMap P kt L.R M c' D') (hM : MN L g' D' n') (hg : w.grownBy w' (some M)) : Hp o w' (nmapT kt L M n' c' g' :: l) :=
  (h.moved (Below.refl _ _) (ts := [nmapT kt L M n' c' g']) fun {A R} k hA hR hAR => mvd1 (A' := A) ⟨k.1, D', hw, hM⟩ (fr_grown hg ((k.1 M).2 rfl)) hR hAR fun x hx => .inl hx).1
theorem Hp.nmapLook (h : Hp o w (nmapT kt L M n c g :: l)) (hk0 : P.underlying kt = some (.int .i64)) (hT : P.underlying T = some (.map kt e)) (k : Int) (hk : (Lit.int .i64 k).wf = true) :
    (Instr.lookup T (.map (some M)) (.int .i64 k) false).run P w = .ok (L.enc ((g k).getD L.zero)) w :=
  h.say fun {A R} hp _ _ => by
    obtain ⟨-, D, hm, hM⟩ := hp
    obtain ⟨v, ps, hrun, hv⟩ := hm.lookup (t := T) (e := e) (int_keyed hk0) hT (L.zrun _) (L.reads _ L.zok) (key := .int .i64 k) (keyOf_int_mk hk0 hk)
    obtain ⟨x, -, rfl, hx⟩ := L.inv _ _ hv
    have hx : D.atKey (nlit k) (L.lit L.zero) = L.lit x := hx
    rw [hM.av] at hx
    have : (g k).getD L.zero = x := by
      cases hg : g k with
      | none => rw [hg] at hx; exact L.inj _ _ hx
      | some y => rw [hg] at hx; exact L.inj _ _ hx
    rw [this]
    exact hrun
theorem Hp.nmapPutRun (h : Hp o w (nmapT kt L M n c g :: l)) (hk0 : P.underlying kt = some (.int .i64)) (hT : P.underlying T = some (.map kt e)) (k : Int) (hk : (Lit.int .i64 k).wf = true) (z : α) (hz : L.ok z) (hc : c < maxLen) (n2 : Nat) (hn2 : (n + if (g k).isSome = true then 0 else 1) = n2) :
    ∃ w', (Instr.mapUpdate T (.map (some M)) (.int .i64 k) (L.enc z)).run P w = .ok () w' ∧ Hp o w' (nmapT kt L M n2 (c + 1) (setN g k (some z)) :: l) := by
  subst hn2
  obtain ⟨D, hm', hM⟩ : ∃ D, w.ownsMap P kt L.R M c D ∧ MN L g D n := h.say fun {A R} hp _ _ => hp.2
  obtain ⟨w', hr, hw', hg⟩ := hm'.update (t := T) (e := e) (int_keyed hk0) hT hc (keyOf_int_mk hk0 hk) (L.reads z hz)
  exact ⟨w', hr, h.nmapTurn (D := D) hw' (hM.put k z hz) hg⟩
section
variable {ops : Array Oper} {rest : List Oper} {oo : Oper} {a : Act} {Q : Exit → Act → World → Prop}
theorem Hp.nmapDel (h : Hp o w (nmapT kt L M n c g :: l)) (hg : oo.guard = none) (m x : Operand) (T kt' : TypeId) (hop : oo.op = Op.call { callee := Callee.builtin Builtin.delete, args := #[m, x], argTypes := #[T, kt'] }) (hkt : kt' = kt) (hk0 : P.underlying kt = some (.int .i64)) (hT : P.underlying T = some (.map kt e)) (hm : a.eval m = .map (some M)) (k : Int) (hx : a.eval x = .int .i64 k) (hk : (Lit.int .i64 k).wf = true) (n2 : Nat) (hn2 : (n - if (g k).isSome = true then 1 else 0) = n2)
    (K : ∀ w', Hp o w' (nmapT kt L M n2 c (setN g k none) :: l) → wpList P ops Q rest (a.put oo.dst (.tuple #[])) w') : wpList P ops Q (oo :: rest) a w := by
  subst hkt
  subst hn2
  have h' := h
  obtain ⟨D, hm', hM⟩ : ∃ D, w.ownsMap P kt' L.R M c D ∧ MN L g D n := h.say fun {A R} hp _ _ => hp.2
  refine wpList_delete_own w hg m x T kt' hop e (int_keyed hk0) hT L.R M c D hm hm' _ _ hx (keyOf_int_mk hk0 hk) ?_
  intro w' hw' ht
  exact K w' (h'.nmapTurn (D := D) hw' (hM.del k) ht.grown)
end
end
end Go.Proofs.Ytnmncjeplfkdpaa.Sp
