/- Package expiry: what the map says of the dues; the object as it lies; New, Len, Get, Next. Conditions: bounds on a key's length. -/
import Derived.Test.YtmjlhmohglbecaaGreatDoorEf3
import Derived.Test.YtmjlhmohglbecaaGreatDoorWq
import Derived.Test.YtmjlhmohglbecaaGreatDoorWs
namespace Go.Proofs.YtmjlhmohglbecaaGreatDoor.Ea
open Go.ChangeShapes Go.WideShapes Go.ChangeAt Go.RowKit Go.Maps Go.WideMaps
def klit (k : ByteArray) : Lit := .string k.data.toList
theorem klit_ne {a b : ByteArray} (h : a ≠ b) : klit a ≠ klit b := fun e => h (by
  unfold klit at e
  injection e with e
  cases a; cases b
  simpa using e)
theorem klit_key (k : ByteArray) : WideAt.IsKeyLit (klit k) := True.intro
theorem keyed : Keyed Tryz.prog 9 := string_keyed Tryz.underlying9
theorem hkey {k : ByteArray} (h : k.size ≤ maxLen) : keyOf Tryz.prog 9 (.string k) = some (klit k) := keyOf_string_mk Tryz.underlying9 h
theorem zeroP (w : World) : (zeroValue 135).run Tryz.prog w = .ok (.pointer none) w := by kernel_rfl
/-- How a due's pointer reads here. -/
def ptrE : Value → Option (DataW Unit × List MemPlace)
  | .pointer none => some (.nil, [])
  | .pointer (some ⟨b, 0, none⟩) => some (.lit (.int .i64 b), [])
  | _ => none
def dat : Option Nat → DataW Unit
  | none => .nil
  | some b => .lit (.int .i64 b)
def ptrO : Option Nat → Value
  | none => .pointer none
  | some b => .pointer (some ⟨b, 0, none⟩)
theorem ptrE_inv {v : Value} {o : Option Nat} {ps : List MemPlace} (h : ptrE v = some (dat o, ps)) : v = ptrO o := by
  unfold ptrE at h
  split at h
  · cases o with
    | none => rfl
    | some b => have h := congrArg (fun x => x.map Prod.fst) h; simp [dat] at h
  · cases o with
    | none => have h := congrArg (fun x => x.map Prod.fst) h; simp [dat] at h
    | some b =>
      have h := congrArg (fun x => x.map Prod.fst) h
      simp [dat] at h
      have h : (_ : Nat) = b := Int.ofNat.inj h
      subst h; rfl
  · cases h
/-- The block of a key's due. -/
def look (L : List En) (k : ByteArray) : Option Nat := (L.find? fun p => decide (p.k = k)).map (·.b)
theorem look_none {L : List En} {k : ByteArray} : look L k = none ↔ ∀ e ∈ L, e.k ≠ k := by
  unfold look
  rw [Option.map_eq_none_iff, List.find?_eq_none]
  simp only [decide_eq_true_eq]
theorem key_inj {L : List En} (h : (L.map (·.k)).Nodup) {i j : Nat} (hi : i < L.length) (hj : j < L.length) (e : L[i].k = L[j].k) : i = j :=
  (List.getElem_inj (h₀ := by rw [List.length_map]; exact hi) (h₁ := by rw [List.length_map]; exact hj) h (i := i) (j := j)).1 (by simpa using e)
theorem look_at {L : List En} (h : (L.map (·.k)).Nodup) {j : Nat} (hj : j < L.length) : look L L[j].k = some L[j].b := by
  unfold look
  cases e : L.find? fun p => decide (p.k = L[j].k) with
  | none =>
    have := List.find?_eq_none.1 e L[j] (List.getElem_mem hj)
    simp at this
  | some q =>
    have h1 := List.find?_some e
    simp only [decide_eq_true_eq] at h1
    obtain ⟨i, hi, rfl⟩ := List.mem_iff_getElem.1 (List.mem_of_find?_eq_some e)
    have := key_inj h hi hj h1
    subst this; rfl
theorem look_idx {L : List En} {k : ByteArray} {b : Nat} (h : look L k = some b) : ∃ j, ∃ hj : j < L.length, L[j].b = b ∧ L[j].k = k := by
  unfold look at h
  cases e : L.find? fun p => decide (p.k = k) with
  | none => rw [e] at h; cases h
  | some q =>
    rw [e] at h
    cases h
    have h1 := List.find?_some e
    simp only [decide_eq_true_eq] at h1
    obtain ⟨i, hi, hq⟩ := List.mem_iff_getElem.1 (List.mem_of_find?_eq_some e)
    exact ⟨i, hi, by rw [hq], by rw [hq]; exact h1⟩
theorem look_mem {L : List En} (h : (L.map (·.k)).Nodup) {k : ByteArray} {b : Nat} : look L k = some b ↔ ∃ e ∈ L, e.k = k ∧ e.b = b := by
  constructor
  · intro hl
    obtain ⟨j, hj, h1, h2⟩ := look_idx hl
    exact ⟨L[j], List.getElem_mem hj, h2, h1⟩
  · rintro ⟨e, he, rfl, rfl⟩
    obtain ⟨j, hj, rfl⟩ := List.mem_iff_getElem.1 he
    exact look_at h hj
theorem look_ext {L L' : List En} (h : (L.map (·.k)).Nodup) (h' : (L'.map (·.k)).Nodup) {k : ByteArray} (hm : ∀ b, (∃ e ∈ L, e.k = k ∧ e.b = b) ↔ ∃ e ∈ L', e.k = k ∧ e.b = b) : look L k = look L' k := by
  cases e : look L k with
  | some b => exact ((look_mem h').2 ((hm b).1 ((look_mem h).1 e))).symm
  | none =>
    cases e2 : look L' k with
    | none => rfl
    | some b =>
      have := (look_mem h).2 ((hm b).2 ((look_mem h').1 e2))
      rw [e] at this; cases this
theorem nodup_perm {L L' : List En} (h : (L.map (·.k)).Nodup) (hp : List.Perm L' L) : (L'.map (·.k)).Nodup := (hp.map _).nodup_iff.2 h
theorem look_perm {L L' : List En} (h : (L.map (·.k)).Nodup) (hp : List.Perm L' L) (k : ByteArray) : look L' k = look L k :=
  look_ext (nodup_perm h hp) h fun b => by simp only [hp.mem_iff]
/-- A map that says where each key's due is. -/
structure KI (L : List En) (D : DataW Unit) : Prop where
  ti : Tidy D
  hs : ∀ k, Maps.has D (klit k) = (look L k).isSome
  av : ∀ k, D.atKey (klit k) .nil = dat (look L k)
  sz : Maps.size D = L.length
theorem KI.new : KI [] (.map []) := ⟨tidy_empty, fun _ => rfl, fun _ => rfl, rfl⟩
/-- Where the same keys lie in the same blocks. -/
theorem KI.same {L L' : List En} {D : DataW Unit} (h : KI L D) (hl : ∀ k, look L' k = look L k) (hn : L'.length = L.length) : KI L' D :=
  ⟨h.ti, fun k => by rw [hl]; exact h.hs k, fun k => by rw [hl]; exact h.av k, by rw [hn]; exact h.sz⟩
theorem look_app {L : List En} {e : En} {k' : ByteArray} : look (L ++ [e]) k' = (look L k').or (if k' = e.k then some e.b else none) := by
  unfold look
  rw [List.find?_append, Option.map_or]
  congr 1
  by_cases h : k' = e.k
  · subst h; simp
  · rw [if_neg h, List.find?_cons_of_neg (by simpa using fun e => h e.symm)]; rfl
theorem KI.put {L : List En} {D : DataW Unit} (h : KI L D) {e : En} (hk : look L e.k = none) : KI (L ++ [e]) (D.put (klit e.k) (dat (some e.b))) := by
  refine ⟨h.ti.put (klit_key e.k) _, fun k' => ?_, fun k' => ?_, ?_⟩
  · rw [look_app]
    by_cases hkk : k' = e.k
    · subst hkk; rw [if_pos rfl, has_put_same h.ti.isMap (klit_key _), hk]; rfl
    · rw [if_neg hkk, has_put_other (klit_ne hkk), Option.or_none]; exact h.hs k'
  · rw [look_app]
    by_cases hkk : k' = e.k
    · subst hkk; rw [if_pos rfl, atKey_put_same h.ti.isMap (klit_key _), hk]; rfl
    · rw [if_neg hkk, atKey_put_other (klit_ne hkk), Option.or_none]; exact h.av k'
  · rw [size_put h.ti, h.hs, hk, if_neg (by decide), h.sz, List.length_append]; rfl
/-- One gone. -/
theorem KI.drop {L L' : List En} {D : DataW Unit} {e : En} (h : KI L D) (hn : (L.map (·.k)).Nodup) (hp : List.Perm (L' ++ [e]) L) : KI L' (D.del (klit e.k)) := by
  have hn1 := nodup_perm hn hp
  have hl : ∀ k', look L k' = (look L' k').or (if k' = e.k then some e.b else none) := fun k' => by rw [← look_perm hn hp, look_app]
  have hne : look L' e.k = none := look_none.2 fun x hx hk => by
    rw [List.map_append] at hn1
    exact (List.nodup_append.1 hn1).2.2 _ (List.mem_map_of_mem hx) _ (by simp) hk
  refine ⟨h.ti.del _, fun k' => ?_, fun k' => ?_, ?_⟩
  · by_cases hkk : k' = e.k
    · subst hkk; rw [hne, has_del_same]; rfl
    · have := hl k'
      rw [if_neg hkk, Option.or_none] at this
      rw [← this, has_del_other (klit_ne hkk)]; exact h.hs k'
  · by_cases hkk : k' = e.k
    · subst hkk; rw [hne, atKey_del_same]; rfl
    · have := hl k'
      rw [if_neg hkk, Option.or_none] at this
      rw [← this, atKey_del_other (klit_ne hkk)]; exact h.av k'
  · have e1 := size_del (k := klit e.k) h.ti
    rw [h.hs, h.sz, hl, hne, if_pos rfl] at e1
    have e2 := hp.length_eq
    rw [List.length_append] at e2
    simp at e1 e2
    omega
theorem own_norm {H : Type} {P : Program} {k : TypeId} {R : Value → Option (DataW H × List MemPlace)} {w : World} {b n : Nat} {D : DataW H} (h : w.ownsMap P k R b n D) : w.ownsMap P k R b (Maps.size D) D := by
  obtain ⟨es, clock, hb, F, hs, rfl⟩ := h
  exact ⟨es, clock, hb, F, by rw [Maps.size_eq, length_read]; exact Nat.le_refl _, rfl⟩
theorem map_same {H : Type} {P : Program} {k : TypeId} {R : Value → Option (DataW H × List MemPlace)} {w w' : World} {b n : Nat} {D : DataW H} (h : w.ownsMap P k R b n D) (e : w'.heap[b]? = w.heap[b]?) : w'.ownsMap P k R b n D := by
  obtain ⟨es, clock, hb, F, hs, hD⟩ := h
  exact ⟨es, clock, e.trans hb, F, hs, hD⟩
theorem map_ne {H : Type} {P : Program} {k : TypeId} {R : Value → Option (DataW H × List MemPlace)} {w : World} {b n : Nat} {D : DataW H} (h : w.ownsMap P k R b n D) {x j : Nat} {v : Value} (hc : w.cell? ⟨x, j, none⟩ = some v) : x ≠ b := by
  rintro rfl
  obtain ⟨es, clock, hb, -⟩ := h
  simp [World.cell?, hb] at hc
theorem map_row {H : Type} {P : Program} {k : TypeId} {R : Value → Option (DataW H × List MemPlace)} {w : World} {b n : Nat} {D : DataW H} (h : w.ownsMap P k R b n D) {base : Nat} {e : TypeId} {size m : Nat} {v : Value} {xs : List Value} (hr : w.ownsRow base e size v m xs) : v.ownBlock ≠ some b := by
  obtain ⟨es, clock, hb, -⟩ := h
  rcases hr.2 with ⟨e1, -⟩ | ⟨g, cap, cur, e1, -, hg, -⟩
  · rw [e1]; simp [Value.ownBlock]
  · rw [e1]
    intro e2
    have e2 : g = b := Option.some.inj e2
    subst e2
    rw [hb] at hg; cases hg
/-- The object: block T; its map M; its heap. -/
structure XA (w : World) (T M : Nat) (v : Value) (l : List En) (D : DataW Unit) : Prop where
  d : DAt w T v l
  c1 : w.cell? ⟨T, 0 + 1, none⟩ = some (.map (some M))
  map : w.ownsMap Tryz.prog 9 ptrE M l.length D
  ki : KI l D
  kn : (l.map (·.k)).Nodup
  hp : Hp (leB ltN) l l.length
/-- The blocks of an object. -/
def own (T M : Nat) (v : Value) (l : List En) (x : Nat) : Prop := x = M ∨ ownD T v l x
section
variable {w w' : World} {T M : Nat} {v : Value} {l : List En} {D : DataW Unit}
theorem XA.lt (h : XA w T M v l D) {x : Nat} (hx : own T M v l x) : x < w.heap.size := by
  rcases hx with rfl | hx
  · exact h.map.lt
  · exact h.d.own_lt hx
theorem XA.keep (h : XA w T M v l D) (hb : ∀ x, own T M v l x → w'.heap[x]? = w.heap[x]?) : XA w' T M v l D :=
  ⟨h.d.keep fun x hx => hb x (.inr hx), (World.cell?_of_block (a := ⟨T, 1, none⟩) (hb T (.inr (.inl rfl)))).trans h.c1, map_same h.map (hb M (.inl rfl)), h.ki, h.kn, h.hp⟩
theorem XA.below (h : XA w T M v l D) (hb : Below w.heap.size w w') : XA w' T M v l D := h.keep fun x hx => hb.block x (h.lt hx)
/-- The map's block is none of the heap's. -/
theorem XA.mn (h : XA w T M v l D) : ¬ ownD T v l M := by
  rintro (e | e | ⟨x, hx, e⟩)
  · exact map_ne h.map h.c1 e.symm
  · exact map_row h.map h.d.hp.row e
  · obtain ⟨i, hi, rfl⟩ := List.mem_iff_getElem.1 hx
    exact map_ne h.map (h.d.hp.nd i hi).c0 e.symm
/-- 'x.found[k]', with 'ok', as an equation on the run. -/
theorem XA.look_run (h : XA w T M v l D) (k : ByteArray) (hk : k.size ≤ maxLen) : (Instr.lookup 139 (.map (some M)) (.string k) true).run Tryz.prog w = .ok (.tuple #[ptrO (look l k), .bool (look l k).isSome]) w := by
  obtain ⟨u, ps, hrun, hv⟩ := h.map.look_ok (t := 139) (e := 135) keyed Tryz.underlying139 (zeroP _) (zd := .nil) (zp := []) rfl (key := .string k) (hkey hk)
  rw [h.ki.av] at hv
  rw [ptrE_inv hv, h.ki.hs] at hrun
  exact hrun
end
set_option maxHeartbeats 4000000 in
set_option maxRecDepth 100000 in
theorem xlen_calls {w : World} {T M : Nat} {v : Value} {l : List En} {D : DataW Unit} (h : XA w T M v l D) :
    Calls Tryz.prog 169 #[.pointer (some ⟨T, 0, none⟩)] w fun e w' => e = .returned (.int .i64 l.length) ∧ w = w' := by
  have c0 := h.d.c0
  obtain ⟨a, c, rfl, -, -, -⟩ := h.d.hp.slice
  clear h
  go_enter Tryz.func169, Tryz.ntmps169
  go_wp2_with fail
  go_ret
  exact ⟨rfl, rfl⟩
set_option maxHeartbeats 4000000 in
set_option maxRecDepth 100000 in
theorem xget_some {w : World} {T M : Nat} {v : Value} {l : List En} {D : DataW Unit} (h : XA w T M v l D) (j : Nat) (hj : j < l.length) (hk : l[j].k.size ≤ maxLen) :
    Calls Tryz.prog 64 #[.pointer (some ⟨T, 0, none⟩), .string l[j].k] w fun e w' => e = .returned (.tuple #[.int .i64 l[j].t, .bool true]) ∧ w = w' := by
  have c1 := h.c1
  have hrun := h.look_run l[j].k hk
  rw [look_at h.kn hj] at hrun
  have n0 := (h.d.hp.nd j hj).c0
  clear h hk
  generalize l[j].k = k at *
  generalize l[j].t = t at *
  generalize l[j].b = b at *
  simp only [ptrO, Option.isSome_some] at hrun
  go_enter Tryz.func64, Tryz.ntmps64
  go_wp2_with fail
  go_ret2
  exact ⟨rfl, rfl⟩
set_option maxHeartbeats 4000000 in
set_option maxRecDepth 100000 in
theorem xget_none {w : World} {T M : Nat} {v : Value} {l : List En} {D : DataW Unit} (h : XA w T M v l D) (k : ByteArray) (hk : k.size ≤ maxLen) (hl : look l k = none) :
    Calls Tryz.prog 64 #[.pointer (some ⟨T, 0, none⟩), .string k] w fun e w' => e = .returned (.tuple #[.int .i64 0, .bool false]) ∧ w = w' := by
  have c1 := h.c1
  have hrun := h.look_run k hk
  rw [hl] at hrun
  clear h hk
  simp only [ptrO, Option.isSome_none] at hrun
  go_enter Tryz.func64, Tryz.ntmps64
  go_wp2_with fail
  go_ret2
  exact ⟨rfl, rfl⟩
end Go.Proofs.YtmjlhmohglbecaaGreatDoor.Ea
/- Package expiry: Put. Conditions: an object as it lies; bounds. -/
namespace Go.Proofs.YtmjlhmohglbecaaGreatDoor.Ea
open Go.ChangeShapes Go.WideShapes Go.ChangeAt Go.RowKit Go.Maps Go.WideMaps
theorem Fr.drewN {S : Nat → Prop} (w : World) (n : Nat) : Fr S w (w.drewN n) := ⟨rfl, rfl, rfl, Nat.le_refl _, fun _ _ _ => rfl⟩
/-- What a call leaves: the object with other dues; what it hasn't, stands. -/
structure Mv (T M : Nat) (v : Value) (l : List En) (w : World) (M' : Nat) (v' : Value) (l' : List En) (D' : DataW Unit) (w' : World) : Prop where
  at_ : XA w' T M' v' l' D'
  fr : Fr (own T M v l) w w'
  own : ∀ x, own T M' v' l' x → own T M v l x ∨ w.heap.size ≤ x
theorem Mv.refl {w : World} {T M : Nat} {v : Value} {l : List En} {D : DataW Unit} (h : XA w T M v l D) : Mv T M v l w M v l D w := ⟨h, Fr.refl _ _, fun _ hx => .inl hx⟩
theorem setEn_get {l : List En} {j : Nat} {e : En} : ∀ k, k ≠ j → (l.set j e)[k]? = l[k]? := fun _ hk => List.getElem?_set_ne (Ne.symm hk)
/-- One due's time turned. -/
theorem DAt.turn {w w' : World} {T : Nat} {v : Value} {l : List En} (h : DAt w T v l) {j : Nat} (hj : j < l.length) {t : Int} (hw : w' = w.setCell ⟨l[j].b, 0, none⟩ (.int .i64 t)) : DAt w' T v (l.set j ⟨l[j].b, t, l[j].k⟩) := by
  have hm := List.getElem_mem hj
  have hb : (l.set j ⟨l[j].b, t, l[j].k⟩).map (·.b) = l.map (·.b) := by
    rw [List.map_set]
    have : l[j].b = (l.map (·.b))[j]'(by rw [List.length_map]; exact hj) := by simp
    rw [this, List.set_getElem_self]
  have hmem : ∀ x ∈ l.set j ⟨l[j].b, t, l[j].k⟩, ∃ y ∈ l, x.b = y.b := fun x hx => by
    have : x.b ∈ l.map (·.b) := hb ▸ List.mem_map_of_mem hx
    obtain ⟨y, hy, e⟩ := List.mem_map.1 this
    exact ⟨y, hy, e.symm⟩
  have hf : Fr (fun y => y = l[j].b) w w' := by rw [hw]; exact Fr.setCell (S := fun y => y = l[j].b) w ⟨l[j].b, 0, none⟩ rfl _
  have hot : ∀ a, a ≠ ⟨l[j].b, 0, none⟩ → w'.cell? a = w.cell? a := fun a ha => by rw [hw]; exact World.cell?_setCell_other _ _ _ _ ha.symm
  have hfz : ∀ a, w'.frozen? a = w.frozen? a := fun a => by rw [hw]; exact World.frozen?_setCell _ _ _ _
  refine ⟨⟨?_, fun i hi => ?_, by rw [hb]; exact h.hp.ne, fun x hx => ?_⟩, (hot _ (addr_ne (.inl (Ne.symm (h.tn _ hm))))).trans h.c0, fun i => (hfz _).trans (h.ft i), h.tv, fun x hx => ?_⟩
  · rw [hb]
    exact row_block h.hp.row fun g hg => hf.block g (row_lt h.hp.row hg) (fun e => h.hp.vn _ hm (by rw [hg, e]))
  · have hi' : i < l.length := by rw [List.length_set] at hi; exact hi
    by_cases e : i = j
    · subst e
      rw [List.getElem_set_self]
      have hd := h.hp.nd i hj
      refine ⟨?_, (hot _ (addr_ne (.inr (by decide)))).trans hd.c1, (hot _ (addr_ne (.inr (by decide)))).trans hd.c2, fun k => (hfz _).trans (hd.fz k)⟩
      rw [hw]; exact World.cell?_setCell_same _ _ _ hd.c0
    · rw [List.getElem_set_ne (Ne.symm e)]
      exact (h.hp.nd i hi').keep (hf.block _ (h.hp.blk (List.getElem_mem hi')) (fun e2 => e (h.hp.inj hi' hj e2)))
  · obtain ⟨y, hy, e⟩ := hmem x hx
    rw [e]; exact h.hp.vn y hy
  · obtain ⟨y, hy, e⟩ := hmem x hx
    rw [e]; exact h.tn y hy
theorem ownD_turn {T : Nat} {v : Value} {l : List En} {j : Nat} (hj : j < l.length) {t : Int} {x : Nat} : ownD T v (l.set j ⟨l[j].b, t, l[j].k⟩) x ↔ ownD T v l x := by
  have hb : (l.set j ⟨l[j].b, t, l[j].k⟩).map (·.b) = l.map (·.b) := by
    rw [List.map_set]
    have : l[j].b = (l.map (·.b))[j]'(by rw [List.length_map]; exact hj) := by simp
    rw [this, List.set_getElem_self]
  have hm : ∀ L : List En, (∃ e ∈ L, x = e.b) ↔ x ∈ L.map (·.b) := fun L => by
    rw [List.mem_map]
    constructor
    · rintro ⟨e, h1, h2⟩; exact ⟨e, h1, h2.symm⟩
    · rintro ⟨e, h1, h2⟩; exact ⟨e, h1, h2.symm⟩
  unfold ownD ownH
  rw [hm, hm, hb]
/-- Whatever a heap's call leaves of an object whose map stands. -/
theorem XA.of_dp {w w1 w' : World} {T M : Nat} {v : Value} {l l1 l' : List En} {D D' : DataW Unit} {S O : Nat → Prop} (_h : XA w T M v l D) (hw : Fr O w w1) (c1 : w1.cell? ⟨T, 0 + 1, none⟩ = some (.map (some M))) (hm1 : w1.ownsMap Tryz.prog 9 ptrE M l1.length D') (hSM : ¬ S M) (hd : DP T S w1 l' w') (hp : List.Perm l' l1) (hki : KI l1 D') (hkn : (l1.map (·.k)).Nodup) (hh : Hp (leB ltN) l' l1.length) (hSo : ∀ x, S x → own T M v l x ∨ w.heap.size ≤ x) :
    ∃ v', XA w' T M v' l' D' ∧ Fr (fun x => O x ∨ S x) w w' ∧ ∀ x, own T M v' l' x → own T M v l x ∨ w.heap.size ≤ x := by
  obtain ⟨v', h1, hf, hc, ho⟩ := hd
  have hln := hp.length_eq
  refine ⟨v', ⟨h1, (hc 1 (by decide)).trans c1, ?_, hki.same (look_perm hkn hp) hln, nodup_perm hkn hp, by rw [hln]; exact hh⟩, (hw.mono fun _ hx => .inl hx).trans (hf.mono fun _ hx => .inr hx), fun x hx => ?_⟩
  · rw [hln]
    exact map_same hm1 (hf.block M hm1.lt hSM)
  · rcases hx with rfl | hx
    · exact .inl (.inl rfl)
    · rcases ho x hx with h2 | h2
      · exact hSo x h2
      · exact .inr (Nat.le_trans hw.size h2)
set_option maxHeartbeats 4000000 in
set_option maxRecDepth 100000 in
theorem put_bad {w : World} (T : Nat) (k : ByteArray) (t : Int) (ht : t < 0 ∨ 4611686018427387904 < t) :
    Calls Tryz.prog 63 #[.pointer (some ⟨T, 0, none⟩), .string k, .int .i64 t] w fun e w' => e = .returned (.int .i64 111) ∧ w = w' := by
  by_cases h0 : t < 0
  case pos =>
    go_enter Tryz.func63, Tryz.ntmps63
    go_wp2_with fail
    go_ret
    exact ⟨rfl, rfl⟩
  case neg =>
    have h1 : 4611686018427387904 < t := by omega
    go_enter Tryz.func63, Tryz.ntmps63
    go_wp2_with fail
    go_ret
    exact ⟨rfl, rfl⟩
set_option maxHeartbeats 4000000 in
set_option maxRecDepth 100000 in
theorem put_some {w : World} {T M : Nat} {v : Value} {l : List En} {D : DataW Unit} (h : XA w T M v l D) (j : Nat) (hj : j < l.length) (hk : l[j].k.size ≤ maxLen) (hl : l.length ≤ 1000000) (t : Int) (h0 : ¬ t < 0) (h1 : ¬ 4611686018427387904 < t) :
    Calls Tryz.prog 63 #[.pointer (some ⟨T, 0, none⟩), .string l[j].k, .int .i64 t] w fun e w' => e = .returned (.int .i64 0) ∧ ∃ v' l', Mv T M v l w M v' l' D w' ∧ List.Perm l' (l.set j ⟨l[j].b, t, l[j].k⟩) := by
  have c1 := h.c1
  have hrun := h.look_run l[j].k hk
  rw [look_at h.kn hj] at hrun
  have n0 := (h.d.hp.nd j hj).c0
  have nf := (h.d.hp.nd j hj).fz 0
  have HH := Lib.hid h
  have HD := Lib.hid (h.d.turn hj (t := t) rfl)
  have HO : Hid (∀ x, ownD T v (l.set j ⟨l[j].b, t, l[j].k⟩) x ↔ ownD T v l x) := Lib.hid fun x => ownD_turn hj
  have HT : Hid (Dn (leB ltN) (l.set j ⟨l[j].b, t, l[j].k⟩) l.length j) := Lib.hid (h.hp.turned ordN (Nat.le_refl _) hj fun k hk => setEn_get k hk)
  have HK : Hid ((l.set j ⟨l[j].b, t, l[j].k⟩).map (·.k) = l.map (·.k)) := Lib.hid (by
    rw [List.map_set]
    have : l[j].k = (l.map (·.k))[j]'(by rw [List.length_map]; exact hj) := by simp
    rw [this, List.set_getElem_self])
  have HN2 : Hid ((w.setCell ⟨l[j].b, 0, none⟩ (.int .i64 t)).cell? ⟨l[j].b, 2, none⟩ = some (.int .i64 j)) := Lib.hid ((World.cell?_setCell_other _ _ _ _ (addr_ne (.inr (by decide)))).trans (h.d.hp.nd j hj).c2)
  have HC1 : Hid ((w.setCell ⟨l[j].b, 0, none⟩ (.int .i64 t)).cell? ⟨T, 0 + 1, none⟩ = some (.map (some M))) := Lib.hid ((World.cell?_setCell_other _ _ _ _ (addr_ne (.inr (by decide)))).trans h.c1)
  have HF1 : Hid (Fr (ownD T v l) w (w.setCell ⟨l[j].b, 0, none⟩ (.int .i64 t))) := Lib.hid (Fr.setCell (S := ownD T v l) w ⟨l[j].b, 0, none⟩ (.inr (.inr ⟨_, List.getElem_mem hj, rfl⟩)) _)
  have HLk : Hid (∀ k, look (l.set j ⟨l[j].b, t, l[j].k⟩) k = look l k) := Lib.hid fun k => by
    have e1 : (l.set j ⟨l[j].b, t, l[j].k⟩).map (fun e => (e.k, e.b)) = l.map (fun e => (e.k, e.b)) := by
      rw [List.map_set]
      have : ((l[j].k, l[j].b) : ByteArray × Nat) = (l.map (fun e => (e.k, e.b)))[j]'(by rw [List.length_map]; exact hj) := by simp
      show (l.map fun e => (e.k, e.b)).set j (l[j].k, l[j].b) = _
      rw [this, List.set_getElem_self]
    have e2 : ∀ L : List En, look L k = ((L.map (fun e => (e.k, e.b))).find? fun p => decide (p.1 = k)).map (·.2) := fun L => by
      unfold look
      rw [List.find?_map, Option.map_map]
      rfl
    rw [e2, e2, e1]
  have hsl : (l.set j ⟨l[j].b, t, l[j].k⟩).length = l.length := List.length_set
  clear h hk
  generalize l.set j ⟨l[j].b, t, l[j].k⟩ = l1 at *
  generalize l[j].k = k at *
  generalize l[j].b = b at *
  simp only [ptrO, Option.isSome_some] at hrun
  go_enter Tryz.func63, Tryz.ntmps63
  go_wp2_with fail
  generalize w.setCell ⟨b, 0, none⟩ (.int .i64 t) = W1 at *
  obtain ⟨F, hF⟩ : ∃ F : Nat → World, ∀ x, F x = W1.drewN x := ⟨fun x => W1.drewN x, fun _ => rfl⟩
  have f2 : ∀ x, (F x).cell? ⟨b, 2, none⟩ = some (.int .i64 j) := fun x => by rw [hF]; exact HN2.out
  have f3 : ∃ x, W1.drew = F x := ⟨1, by rw [hF]; rfl⟩
  have HFx := Lib.hid (fun x => fix_calls (ifaceD T (ownD T v l) (F x)) ordN (F x) l1 j (by omega) (by omega) ⟨v, by rw [hF]; exact HD.out.keep fun _ _ => rfl, Fr.refl _ _, fun _ _ => rfl, fun y hy => .inl ((HO.out y).1 hy)⟩ (by rw [hsl]; exact HT.out))
  have HF := Lib.hid hF
  clear hF hrun n0 nf c1
  refine wp_region_tail F 8 (by kernel_rfl) (by kernel_rfl) f3 ?_
  simp only [List.take_succ_cons, List.take_zero, List.drop_succ_cons, List.drop_zero]
  repeat (go_big_quiet_step (fail))
  refine wpQuiet_nil ?_
  intro x1
  have HF2 := Lib.hid (HFx.out x1)
  have HW : Hid (F x1 = W1.drewN x1) := Lib.hid (HF.out x1)
  clear f2 f3 HF HFx
  generalize F x1 = W2 at *
  go_wp2_with fail
  refine HF2.out.mono ?_; rintro en w3 ⟨rfl, l', hP3, hpm3, hh3⟩
  have HZ := Lib.hid (And.intro hP3 (And.intro hpm3 hh3))
  clear hP3 hpm3 hh3 HF2
  go_wp2_with fail
  go_ret
  obtain ⟨hP3, hpm3, hh3⟩ := HZ.out
  have hw12 : Fr (ownD T v l) w W2 := HF1.out.trans (by rw [HW.out]; exact Fr.drewN _ _)
  have hc1 : W2.cell? ⟨T, 0 + 1, none⟩ = some (.map (some M)) := by rw [HW.out]; exact HC1.out
  have hm2 : W2.ownsMap Tryz.prog 9 ptrE M l1.length D := by
    rw [hsl]
    exact map_same HH.out.map (hw12.block M HH.out.map.lt HH.out.mn)
  obtain ⟨v', h1, h2, h3⟩ := HH.out.of_dp hw12 hc1 hm2 HH.out.mn hP3 hpm3 (HH.out.ki.same HLk.out hsl) (by rw [HK.out]; exact HH.out.kn) hh3 fun x hx => .inl (.inr hx)
  exact ⟨rfl, v', l', ⟨h1, h2.mono fun x hx => .inr (hx.elim id id), h3⟩, hpm3⟩
set_option maxHeartbeats 4000000 in
set_option maxRecDepth 100000 in
theorem put_none {w : World} {T M : Nat} {v : Value} {l : List En} {D : DataW Unit} (h : XA w T M v l D) (k : ByteArray) (hk : k.size ≤ maxLen) (hl : l.length ≤ 1000000) (hlk : look l k = none) (t : Int) (h0 : ¬ t < 0) (h1 : ¬ 4611686018427387904 < t) :
    Calls Tryz.prog 63 #[.pointer (some ⟨T, 0, none⟩), .string k, .int .i64 t] w fun e w' => e = .returned (.int .i64 0) ∧ ∃ v' l' D', Mv T M v l w M v' l' D' w' ∧ List.Perm l' (l ++ [⟨w.heap.size, t, k⟩]) := by
  have c1 := h.c1
  have hrun := h.look_run k hk
  rw [hlk] at hrun
  have HK := Lib.hid hk
  have HH := Lib.hid h
  have HN := Lib.hid hlk
  have hml : Hid (l.length < maxLen) := Lib.hid (by unfold maxLen; omega)
  clear h hk hlk
  simp only [ptrO, Option.isSome_none] at hrun
  have hbb := bbox (w := w) (.cells #[.int .i64 t, .string k, .int .i64 0] 147)
  have b1 : (w.alloc (.cells #[.int .i64 t, .string k, .int .i64 0] 147)).cell? ⟨T, 0 + 1, none⟩ = some (.map (some M)) := (hbb.cell (p := ⟨T, 0 + 1, none⟩) HH.out.d.lt).trans c1
  have HB := Lib.hid hbb
  have HLo : Hid (∀ i, (w.alloc (.cells #[.int .i64 t, .string k, .int .i64 0] 147)).cell? ⟨w.heap.size, i, none⟩ = #[.int .i64 t, .string k, .int .i64 0][i]?) := Lib.hid fun i => World.cell?_alloc_new w _ _ i
  have HFz : Hid (∀ i, (w.alloc (.cells #[.int .i64 t, .string k, .int .i64 0] 147)).frozen? ⟨w.heap.size, i, none⟩ = false) := Lib.hid fun i => by simp
  have HSz : Hid ((w.alloc (.cells #[.int .i64 t, .string k, .int .i64 0] 147)).heap.size = w.heap.size + 1) := Lib.hid (by simp)
  clear hbb
  have hmap := Lib.hid (map_same HH.out.map (HB.out.block M HH.out.map.lt))
  go_enter Tryz.func63, Tryz.ntmps63
  go_wp2_with (at_mapUpdate; refine wpList_mapUpdate_own _ rfl _ _ _ _ rfl 9 135 keyed Tryz.underlying139 ptrE M l.length D rfl hmap.out hml.out _ _ _ rfl rfl (hkey HK.out) (dat (some w.heap.size)) [] rfl ?_)
  intro w2 hm2 hg2
  have hF2 : Fr (fun y => y = M) w w2 := (Fr.of_below HB.out).trans (Fr.grown hg2 fun i hi => (Option.some.inj hi).symm)
  have hd2 : DAt w2 T v l := HH.out.d.keep fun x hx => hF2.block x (HH.out.d.own_lt hx) (fun e => HH.out.mn (e ▸ hx))
  have ex : w2.heap[w.heap.size]? = (w.alloc (.cells #[.int .i64 t, .string k, .int .i64 0] 147)).heap[w.heap.size]? := hg2.block _ (by rw [HSz.out]; omega) (fun e => by have h1 : M = w.heap.size := (by injection e with e; exact e.symm); have := HH.out.map.lt; omega)
  have ec : ∀ i, w2.cell? ⟨w.heap.size, i, none⟩ = #[.int .i64 t, .string k, .int .i64 0][i]? := fun i => (World.cell?_of_block (a := ⟨w.heap.size, i, none⟩) ex).trans (HLo.out i)
  have hlo : LoneE w2 ⟨w.heap.size, t, k⟩ := ⟨ec 0, ec 1, ⟨_, ec 2⟩, fun i => (World.frozen?_of_block (a := ⟨w.heap.size, i, none⟩) ex).trans (HFz.out i)⟩
  have hpre : DP T (fun y => ownD T v l y ∨ y = w.heap.size) w2 l w2 := ⟨v, hd2, Fr.refl _ _, fun _ _ => rfl, fun y hy => .inl (.inl hy)⟩
  have hne : ∀ x ∈ l, x.b ≠ w.heap.size := fun x hx e => by have := HH.out.d.hp.blk hx; omega
  have hTne : w.heap.size ≠ T := fun e => by have := HH.out.d.lt; omega
  have HP := Lib.hid (push_calls (ifaceD T (fun y => ownD T v l y ∨ y = w.heap.size) w2) ordN w2 l ⟨w.heap.size, t, k⟩ _ (by omega) (pushD hpre ⟨w.heap.size, t, k⟩ (by omega) hlo (.inr rfl) hTne (fun v' hv' e => by
    have e2 : v' = v := by have := hv'.c0; rw [hd2.c0] at this; exact (Option.some.inj this).symm
    rw [e2] at e
    have := row_lt HH.out.d.hp.row e
    exact absurd this (Nat.lt_irrefl _)) hne) HH.out.hp)
  have H2 := Lib.hid (And.intro hF2 (And.intro hm2 hd2))
  have hc12 : w2.cell? ⟨T, 0 + 1, none⟩ = some (.map (some M)) := (World.cell?_of_block (a := ⟨T, 1, none⟩) (hF2.block T HH.out.d.lt (fun e => HH.out.mn (e ▸ .inl rfl)))).trans HH.out.c1
  have HC := Lib.hid hc12
  clear hF2 hm2 hg2 hd2 ex ec hlo hpre hne hTne hc12 b1 c1 hrun
  unfold ptr at HP
  go_wp2_with fail
  refine HP.out.mono ?_; rintro en w3 ⟨rfl, l', hP3, hpm3, hh3⟩
  have HZ := Lib.hid (And.intro hP3 (And.intro hpm3 hh3))
  clear hP3 hpm3 hh3 HP
  go_wp2_with fail
  go_ret
  obtain ⟨hP3, hpm3, hh3⟩ := HZ.out
  obtain ⟨hF2, hm2, -⟩ := H2.out
  have hmn := HH.out.mn
  have hkn2 : ((l ++ [(⟨w.heap.size, t, k⟩ : En)]).map (·.k)).Nodup := by
    rw [List.map_append]
    refine List.nodup_append.2 ⟨HH.out.kn, by simp, fun x hx y hy e => ?_⟩
    obtain ⟨z, hz, rfl⟩ := List.mem_map.1 hx
    have hy : y = k := by simpa using hy
    exact look_none.1 HN.out z hz (e.trans hy)
  have hki := HH.out.ki.put (e := ⟨w.heap.size, t, k⟩) HN.out
  have hm2' := own_norm hm2
  have hsz := hki.sz
  rw [hsz] at hm2'
  obtain ⟨v', h1, h2, h3⟩ := HH.out.of_dp hF2 HC.out hm2' (fun e => by
    rcases e with e | e
    · exact hmn e
    · have := HH.out.map.lt; omega) hP3 hpm3 hki hkn2 (by rw [List.length_append]; exact hh3) fun x hx => by
      rcases hx with hx | hx
      · exact .inl (.inr hx)
      · exact .inr (by omega)
  refine ⟨rfl, v', l', _, ⟨h1, h2.mono2 fun x hxl hx => ?_, h3⟩, hpm3⟩
  rcases hx with hx | hx | hx
  · exact .inl hx
  · exact .inr hx
  · omega
end Go.Proofs.YtmjlhmohglbecaaGreatDoor.Ea
/- Package expiry: Drop, Next, New, Clear. Conditions: an object as it lies; bounds. -/
namespace Go.Proofs.YtmjlhmohglbecaaGreatDoor.Ea
open Go.ChangeShapes Go.WideShapes Go.ChangeAt Go.RowKit Go.Maps Go.WideMaps
set_option maxHeartbeats 4000000 in
set_option maxRecDepth 100000 in
theorem xdrop_some {w : World} {T M : Nat} {v : Value} {l : List En} {D : DataW Unit} (h : XA w T M v l D) (j : Nat) (hj : j < l.length) (hk : l[j].k.size ≤ maxLen) (hl : l.length ≤ 1000000) :
    Calls Tryz.prog 51 #[.pointer (some ⟨T, 0, none⟩), .string l[j].k] w fun e w' => e = .returned (.bool true) ∧ ∃ v' l' D', Mv T M v l w M v' l' D' w' ∧ List.Perm (l' ++ [l[j]]) l := by
  have c1 := h.c1
  have hrun := h.look_run l[j].k hk
  rw [look_at h.kn hj] at hrun
  have HN2 := Lib.hid (h.d.hp.nd j hj).c2
  have HH := Lib.hid h
  have HK := Lib.hid hk
  have HSM : Hid (¬ ownD T v l M) := Lib.hid h.mn
  obtain ⟨n, hn⟩ : ∃ n, l.length = n + 1 := ⟨l.length - 1, by omega⟩
  have HRm : Hid (∀ W, Fr (fun _ => False) w W → Calls Tryz.prog 78 #[.iface 143 (.pointer (some ⟨T, 0, none⟩)), .int .i64 j] W fun e w' => ∃ l', e = .returned (.iface 135 (ptr l[j].b)) ∧ RD T (ownD T v l) W l[j] l' e w' ∧ List.Perm (l' ++ [l[j]]) l ∧ Hp (leB ltN) l' n) := Lib.hid fun W hW => remove_calls (val := fun a => .iface 135 (ptr a.b)) (ifaceD T (ownD T v l) W) ordN (popD T (ownD T v l) W) (fun _ _ _ _ h => h.1) W l n j hn (by omega) hj ⟨v, h.d.keep fun x hx => hW.block x (h.d.own_lt hx) id, Fr.refl _ _, fun _ _ => rfl, fun y hy => .inl hy⟩ (by have := h.hp; rw [hn] at this; exact this)
  have HKi : Hid (∀ l', List.Perm (l' ++ [l[j]]) l → KI l' (D.del (klit l[j].k)) ∧ (l'.map (·.k)).Nodup) := Lib.hid fun l' hp => ⟨h.ki.drop h.kn hp, by
    have := nodup_perm h.kn hp
    rw [List.map_append] at this
    exact (List.nodup_append.1 this).1⟩
  have HLo : Hid (∀ W, LoneE W l[j] → W.cell? ⟨l[j].b, 1, none⟩ = some (.string l[j].k) ∧ W.cell? ⟨l[j].b, 0 + 1, none⟩ = some (.string l[j].k)) := Lib.hid fun W hW => ⟨hW.c1, hW.c1⟩
  clear h hk
  generalize l[j] = e at *
  simp only [ptrO, Option.isSome_some] at hrun
  go_enter Tryz.func51, Tryz.ntmps51
  go_wp2_with fail
  obtain ⟨F, hF⟩ : ∃ F : Nat → World, ∀ x, F x = w.drewN x := ⟨fun x => w.drewN x, fun _ => rfl⟩
  have f2 : ∀ x, (F x).cell? ⟨e.b, 2, none⟩ = some (.int .i64 j) := fun x => by rw [hF]; exact HN2.out
  have f3 : ∃ x, w.drew = F x := ⟨1, by rw [hF]; rfl⟩
  have HF := Lib.hid hF
  clear hF hrun c1
  refine wp_region_tail F 8 (by kernel_rfl) (by kernel_rfl) f3 ?_
  simp only [List.take_succ_cons, List.take_zero, List.drop_succ_cons, List.drop_zero]
  repeat (go_big_quiet_step (fail))
  refine wpQuiet_nil ?_
  intro x1
  have HF2 := Lib.hid (HRm.out (F x1) (by rw [HF.out]; exact Fr.drewN _ _))
  have HW : Hid (F x1 = w.drewN x1) := Lib.hid (HF.out x1)
  clear f2 f3 HF HRm HN2
  generalize F x1 = W2 at *
  have hta := taP (ptr e.b)
  unfold ptr at HF2 hta
  go_wp2_with fail
  refine HF2.out.mono ?_; rintro en w3 ⟨l', rfl, ⟨-, hP3, hlo3⟩, hpm3, hh3⟩
  have hw2 : Fr (fun _ => False) w W2 := by rw [HW.out]; exact Fr.drewN _ _
  have hc3 : w3.cell? ⟨T, 0 + 1, none⟩ = some (.map (some M)) := by
    obtain ⟨v3, -, -, hc, -⟩ := hP3
    rw [hc 1 (by decide)]
    exact (World.cell?_of_block (a := ⟨T, 1, none⟩) (hw2.block T HH.out.d.lt id)).trans HH.out.c1
  have hm3 : w3.ownsMap Tryz.prog 9 ptrE M l.length D := by
    obtain ⟨v3, -, hf, -, -⟩ := hP3
    have h1 := map_same HH.out.map (hw2.block M HH.out.map.lt id)
    exact map_same h1 (hf.block M h1.lt HSM.out)
  have HM3 := Lib.hid hm3
  obtain ⟨k1, -⟩ := HLo.out w3 hlo3
  have HZ := Lib.hid (And.intro hP3 (And.intro hpm3 hh3))
  have HW2 := Lib.hid hw2
  have HC3 := Lib.hid hc3
  clear hP3 hlo3 hpm3 hh3 HF2 hw2 hm3
  go_wp2_with fail
  obtain ⟨G, hG⟩ : ∃ F : Nat → World, ∀ x, F x = w3.drewN x := ⟨fun x => w3.drewN x, fun _ => rfl⟩
  have g1 : ∀ x, (G x).cell? ⟨e.b, 1, none⟩ = some (.string e.k) := fun x => by rw [hG]; exact k1
  have g2 : ∀ x, (G x).cell? ⟨T, 0 + 1, none⟩ = some (.map (some M)) := fun x => by rw [hG]; exact hc3
  have g3 : ∃ x, w3.drew = G x := ⟨1, by rw [hG]; rfl⟩
  have HG := Lib.hid hG
  have HMx : Hid (∀ x, (G x).ownsMap Tryz.prog 9 ptrE M l.length D) := Lib.hid fun x => by rw [hG]; exact map_same HM3.out rfl
  clear hG k1 hc3
  refine wp_region_tail G 9 (by kernel_rfl) (by kernel_rfl) g3 ?_
  simp only [List.take_succ_cons, List.take_zero, List.drop_succ_cons, List.drop_zero]
  repeat (go_big_quiet_step (fail))
  refine wpQuiet_nil ?_
  intro x2
  have hm4 := Lib.hid (HMx.out x2)
  have HW4 : Hid (G x2 = w3.drewN x2) := Lib.hid (HG.out x2)
  clear g1 g2 g3 HG HMx
  generalize G x2 = W4 at *
  go_wp2_with (at_delete; refine wpList_delete_own _ rfl _ _ _ _ rfl 135 keyed Tryz.underlying139 ptrE M l.length D rfl hm4.out _ _ rfl (hkey HK.out) ?_)
  intro w5 hm5 hg5
  have H5 := Lib.hid (And.intro hm5 hg5)
  clear hm5 hg5
  go_wp2_with fail
  go_ret
  obtain ⟨hm5, hg5⟩ := H5.out
  obtain ⟨⟨v3, hd3, hf3, hcc3, ho3⟩, hpm3, hh3⟩ := HZ.out
  obtain ⟨hki, hkn⟩ := HKi.out l' hpm3
  have hf5 : Fr (fun y => y = M) w3 w5 := (show Fr (fun y => y = M) w3 W4 by rw [HW4.out]; exact Fr.drewN _ _).trans (Fr.grown hg5.grown fun i hi => (Option.some.inj hi).symm)
  have hd5 : DAt w5 T v3 l' := hd3.keep fun x hx => hf5.block x (hd3.own_lt hx) (fun e2 => by
    rcases ho3 x hx with h1 | h1
    · exact HSM.out (e2 ▸ h1)
    · have h2 := HH.out.map.lt
      have h3 := HW2.out.size
      omega)
  have hpl := hpm3.length_eq
  rw [List.length_append] at hpl
  have hll : l'.length = n := by simp at hpl; omega
  have hmn := own_norm hm5
  rw [hki.sz] at hmn
  have hTM : T ≠ M := fun e2 => HSM.out (e2 ▸ .inl rfl)
  refine ⟨rfl, v3, l', _, ⟨⟨hd5, (World.cell?_of_block (a := ⟨T, 1, none⟩) (hf5.block T hd3.lt hTM)).trans HC3.out, hmn, hki, hkn, by rw [hll]; exact hh3⟩, ?_, fun x hx => ?_⟩, hpm3⟩
  · exact ((HW2.out.mono fun _ hx => hx.elim).trans (hf3.mono fun x hx => .inr hx)).trans (hf5.mono fun x hx => .inl hx)
  · rcases hx with hx | hx
    · exact .inl (.inl hx)
    · rcases ho3 x hx with h1 | h1
      · exact .inl (.inr h1)
      · have h3 := HW2.out.size
        exact .inr (by omega)
set_option maxHeartbeats 4000000 in
set_option maxRecDepth 100000 in
theorem xdrop_none {w : World} {T M : Nat} {v : Value} {l : List En} {D : DataW Unit} (h : XA w T M v l D) (k : ByteArray) (hk : k.size ≤ maxLen) (hl : look l k = none) :
    Calls Tryz.prog 51 #[.pointer (some ⟨T, 0, none⟩), .string k] w fun e w' => e = .returned (.bool false) ∧ w = w' := by
  have c1 := h.c1
  have hrun := h.look_run k hk
  rw [hl] at hrun
  clear h hl
  simp only [ptrO, Option.isSome_none] at hrun
  go_enter Tryz.func51, Tryz.ntmps51
  go_wp2_with fail
  go_ret
  exact ⟨rfl, rfl⟩
theorem new_at (w : World) (N : Nat) (hN : N = w.heap.size) : XA ((w.alloc (.map #[] 0)).alloc (.cells #[.slice none 0 0, .map (some N)] 141)) (N + 1) N (.slice none 0 0) [] (.map []) ∧
    Below w.heap.size w ((w.alloc (.map #[] 0)).alloc (.cells #[.slice none 0 0, .map (some N)] 141)) := by
  have m2 := World.ownsMap_made w Tryz.prog 9 ptrE
  have s2 : (w.alloc (.map #[] 0)).heap.size = w.heap.size + 1 := by simp
  have B2 := bbox (w := w) (.map #[] 0)
  generalize w.alloc (.map #[] 0) = W2 at *
  have c3 := fun j => World.cell?_alloc_new W2 #[.slice none 0 0, .map (some N)] 141 j
  have f3 : ∀ j, (W2.alloc (.cells #[.slice none 0 0, .map (some N)] 141)).frozen? ⟨W2.heap.size, j, none⟩ = false := fun j => by simp
  have B3 := bbox (w := W2) (.cells #[.slice none 0 0, .map (some N)] 141)
  generalize W2.alloc (.cells #[.slice none 0 0, .map (some N)] 141) = W3 at *
  rw [s2, ← hN] at c3 f3
  rw [← hN] at m2
  refine ⟨⟨⟨⟨World.ownsRow_nil _ _ _ _, fun i hi => absurd hi (Nat.not_lt_zero _), List.nodup_nil, fun e he => by cases he⟩, c3 0, f3, by simp [Value.ownBlock], fun e he => by cases he⟩, c3 1, map_same m2 (B3.block _ (by omega)), KI.new, List.nodup_nil, fun k h0 hk => absurd hk (Nat.not_lt_zero _)⟩, bstep B2 B3⟩
set_option maxHeartbeats 4000000 in
set_option maxRecDepth 100000 in
theorem new_calls (w : World) :
    Calls Tryz.prog 56 #[] w fun e w' => ∃ T M, e = .returned (.pointer (some ⟨T, 0, none⟩)) ∧ XA w' T M (.slice none 0 0) [] (.map []) ∧ Below w.heap.size w w' ∧ w.heap.size ≤ T ∧ w.heap.size ≤ M := by
  have hmm := @run_makeMap Tryz.prog
  go_enter Tryz.func56, Tryz.ntmps56
  go_wp2_with fail
  go_ret
  obtain ⟨h1, h2⟩ := new_at w w.heap.size rfl
  exact ⟨_, _, rfl, h1, h2, by omega, Nat.le_refl _⟩
end Go.Proofs.YtmjlhmohglbecaaGreatDoor.Ea
/- Rows of strings; Due, All of package expiry; Same of layer 6. Conditions: an object as it lies; bounds. -/
namespace Go.Proofs.YtmjlhmohglbecaaGreatDoor.Ea
open Go.ChangeShapes Go.WideShapes Go.ChangeAt Go.RowKit
theorem beq_eq {x y : ByteArray} (h : x = y) : (x.toList == y.toList) = true := by rw [h]; exact beq_self_eq_true _
def cellsT (l : List ByteArray) : List Value := l.map .string
theorem cellsT_len (l : List ByteArray) : (cellsT l).length = l.length * 1 := by simp [cellsT]
theorem iStr : (Tryz.prog.info? 9).map (fun i => (i.zero, i.size, i.bytes)) = some (some (.string ⟨#[]⟩), 1, 16) := by kernel_rfl
/-- The strings l in a row v of the call's own, made behind the world wb; of wb all stands. -/
structure RowT (wb w : World) (v : Value) (l : List ByteArray) : Prop where
  row : w.ownsRow wb.heap.size 9 1 v l.length (cellsT l)
  bel : Below wb.heap.size wb w
theorem RowT.below {wb w w' : World} {v : Value} {l : List ByteArray} (h : RowT wb w v l) (hb : Below w.heap.size w w') : RowT wb w' v l :=
  ⟨h.row.kept (grow_of0 hb) (by cases hv : v.ownBlock <;> simp), h.bel.trans (hb.mono h.bel.size)⟩
/-- .. with room for c strings, at a world that w has grown to. -/
theorem rowT_made2 {w0 w : World} (hb : Below w0.heap.size w0 w) (cur : Array Value) (c : Nat) (hc : c ≤ 1000000000) (hs : cur.size = c * 1) : RowT w0 (w.alloc (.cells cur 9)) (.slice (some ⟨w.heap.size, 0, none⟩) 0 c) [] :=
  ⟨World.ownsRow_made w cur c hb.size (by unfold maxLen; omega) hs, hb.alloc hb.size _⟩
theorem rowT_made (w : World) : RowT w (w.alloc (.cells #[] 9)) (.slice (some ⟨w.heap.size, 0, none⟩) 0 0) [] := ⟨World.ownsRow_made w #[] 0 (Nat.le_refl _) (Nat.zero_le _) rfl, bbox _⟩
theorem RowT.over {wa wb w : World} {v : Value} {l : List ByteArray} (h : RowT wb w v l) (hb : Below wa.heap.size wa wb) : RowT wa w v l := by
  refine ⟨⟨h.row.1, ?_⟩, hb.trans (h.bel.mono hb.size)⟩
  rcases h.row.2 with h | ⟨g, cap, cur, h1, h2, h3⟩
  · exact Or.inl h
  · exact Or.inr ⟨g, cap, cur, h1, Nat.le_trans hb.size h2, h3⟩
/-- The strings l lie at a. -/
def InT (w : World) (a : Option Addr) (l : List ByteArray) : Prop := ∀ i (hi : i < l.length), ∃ g, a = some ⟨g, 0, none⟩ ∧ w.cell? ⟨g, i, none⟩ = some (.string l[i])
theorem InT.below {w w' : World} {a : Option Addr} {l : List ByteArray} (h : InT w a l) (hb : Below w.heap.size w w') : InT w' a l := fun i hi => by
  obtain ⟨g, e, h1⟩ := h i hi
  exact ⟨g, e, (hb.cell (p := ⟨g, i, none⟩) (World.block_lt_of_cell? w _ h1)).trans h1⟩
/-- Where a row's strings lie: nowhere, or in a block of the call's own. -/
def Own (b : Nat) (a : Option Addr) (l : List ByteArray) : Prop := 0 < l.length → ∃ g, a = some ⟨g, 0, none⟩ ∧ b ≤ g
theorem RowT.slice {wb w : World} {v : Value} {l : List ByteArray} (h : RowT wb w v l) : ∃ a c, v = .slice a l.length c ∧ l.length ≤ c ∧ c ≤ 9223372036854775807 ∧ InT w a l ∧ Own wb.heap.size a l := by
  rcases h.row.2 with ⟨rfl, hn⟩ | ⟨g, cap, cur, rfl, hg, hh, h1, h2, h3, h4⟩
  · exact ⟨none, 0, by rw [hn], by omega, Nat.zero_le _, fun i hi => absurd hi (by omega), fun h => absurd h (by omega)⟩
  · refine ⟨some ⟨g, 0, none⟩, cap, rfl, h1, by unfold maxLen at h2; omega, fun i hi => ⟨g, rfl, ?_⟩, fun _ => ⟨g, rfl, hg⟩⟩
    have e1 : (cur.toList.take (l.length * 1))[i]? = cur.toList[i]? := List.getElem?_take_of_lt (by omega)
    rw [h4] at e1
    have e2 : (cellsT l)[i]? = some (.string l[i]) := by simp [cellsT, hi]
    rw [e2] at e1
    simp only [World.cell?, hh]
    simpa using e1.symm
/-- The strings r appended to a row's. -/
theorem str_push {wb w : World} {v : Value} {l : List ByteArray} {ops : Array Oper} {rest : List Oper} {o : Oper} {a : Act} {Q : Exit → Act → World → Prop} (hO : RowT wb w v l) (hgd : o.guard = none) (s x : Operand)
    (ho : o.op = .call { callee := .builtin .append, args := #[s, x], argTypes := #[53, 53] }) (hs : a.eval s = v) (r : List ByteArray) (c : Nat)
    {b n : Nat} (hx : a.eval x = .slice (some ⟨b, 0, none⟩) n c) (hn : n = r.length) (hI : InT w (some ⟨b, 0, none⟩) r) (hl : l.length ≤ 1000000000) (hr : r.length ≤ 1000000000)
    (h : ∀ v' w', RowT wb w' v' (l ++ r) → wpList Tryz.prog ops Q rest (a.put o.dst v') w') : wpList Tryz.prog ops Q (o :: rest) a w := by
  obtain ⟨i0, hi, hz0, hz1, hz2⟩ := info_parts iStr
  subst hn
  refine wpList_append_own _ hgd s x 53 ho wb.heap.size 9 i0 (.string ⟨#[]⟩) 1 16 Tryz.underlying53 hi hz0 hz1 hz2 rfl (by decide) v l.length (cellsT l) hs hO.row ⟨b, 0, none⟩ r.length c (cellsT r) hx (cellsT_len r) ?_ ?_ (by unfold maxLen; omega) (by omega) hO.bel.size ?_
  · intro j u hj
    rw [Addr.add_lit, Nat.zero_add]
    have hjr : j < r.length := by
      have h0 := (List.getElem?_eq_some_iff.1 hj).1
      rw [cellsT_len] at h0
      omega
    obtain ⟨g, e, hc⟩ := hI j hjr
    cases e
    rw [hc, ← hj]
    simp [cellsT, hjr]
  · intro u hu
    obtain ⟨y, -, rfl⟩ := List.mem_map.1 hu
    rfl
  · intro v' w' hr2 hg _
    refine h v' w' ⟨?_, hO.bel.grown hg hO.bel.size (fun k hk => (hO.row.lt k hk).1)⟩
    rw [List.length_append, show cellsT (l ++ r) = cellsT l ++ cellsT r from List.map_append]
    exact hr2
theorem inT_new (w : World) (s : ByteArray) (T : TypeId) : InT (w.alloc (.cells #[.string s] T)) (some ⟨w.heap.size, 0, none⟩) [s] := by
  intro i hi
  obtain rfl : i = 0 := by simpa using hi
  exact ⟨w.heap.size, rfl, by rw [World.cell?_alloc_new]; rfl⟩
theorem same_take {l r : List ByteArray} {j : Nat} (hl : j < l.length) (hr : j < r.length) (h : l.take j = r.take j) (he : l[j] = r[j]) : l.take (j + 1) = r.take (j + 1) := by
  rw [← List.take_append_getElem hl, ← List.take_append_getElem hr, h, he]
set_option maxHeartbeats 4000000 in
set_option maxRecDepth 100000 in
theorem same_calls (w : World) (a b : Option Addr) (c d : Nat) (l : List ByteArray) (hl : l.length ≤ 1000000) (hI : InT w a l) (hJ : InT w b l) :
    Calls Tryz.prog 17 #[.slice a l.length c, .slice b l.length d] w fun e w' => e = .returned (.bool true) ∧ Below w.heap.size w w' := by
  have HI := Lib.hid hI
  have HJ := Lib.hid hJ
  clear hI hJ
  go_enter Tryz.func17, Tryz.ntmps17
  go_wp2_with fail
  go_loopg [5, 13] (l.length + 1) (fun g _ vi wr => ∃ j : Nat, vi = .int .i64 j ∧ j ≤ l.length ∧ l.length - j ≤ g ∧ Hid (Below w.heap.size w wr))
  case atStart => exact ⟨0, rfl, by omega, by omega, Lib.hid (Below.refl _ _)⟩
  case round =>
    obtain ⟨j, rfl, hj, hg, HB⟩ := hrel
    by_cases hjl : j < l.length
    case pos =>
      have hjc : (j : Int) < (l.length : Int) := by omega
      obtain ⟨g1, rfl, c0⟩ := HI.out.below HB.out j hjl
      obtain ⟨g2, rfl, c1⟩ := HJ.out.below HB.out j hjl
      generalize l[j] = q at *
      go_wp2_with fail
      go_quiet (fail)
      go_wp2_with fail
      go_roundg (gk - 1)
      case measure => omega
      case rel => exact ⟨j + 1, by go_num, by omega, by omega, Lib.hid (HB.out.trans ⟨rfl, rfl, rfl, Nat.le_refl _, fun _ _ => rfl⟩)⟩
    case neg =>
      have hjc : ¬ ((j : Int) < (l.length : Int)) := by omega
      go_wp2_with fail
      go_ret
      exact ⟨rfl, HB.out⟩
theorem rowT_nil (w w' : World) (hb : Below w.heap.size w w') : RowT w w' (.slice none 0 0) [] := ⟨World.ownsRow_nil _ _ _ _, hb⟩
set_option maxHeartbeats 4000000 in
set_option maxRecDepth 100000 in
theorem xdue_calls {w : World} {T M : Nat} {v : Value} {l : List En} {D : DataW Unit} (h : XA w T M v l D) (hl : l.length ≤ 1000000) {S : List Du} (hS : UpD S) (hp : List.Perm (l.map En.d) S) (now most : Int) (hm1 : -9223372036854775808 ≤ most) (hm2 : most ≤ 9223372036854775807) :
    Calls Tryz.prog 65 #[.pointer (some ⟨T, 0, none⟩), .int .i64 now, .int .i64 most] w fun e w' => ∃ v, e = .returned v ∧ RowT w w' v ((dueD now most.toNat S).map (·.2)) := by
  have c0 := h.d.c0
  have HF := Lib.hid (first_calls h.d.hp h.hp h.kn hl hS hp now most hm1 hm2)
  obtain ⟨a, c, rfl, -, -, -⟩ := h.d.hp.slice
  have hdl : Hid ((dueD now most.toNat S).length ≤ 1000000) := Lib.hid (by
    have h1 : (dueD now most.toNat S).length ≤ S.length := Nat.le_trans (List.length_take_le' _ _) (List.length_filter_le _ _)
    have h2 := hp.length_eq
    rw [List.length_map] at h2
    omega)
  clear h hS hp
  generalize dueD now most.toNat S = L at *
  go_enter Tryz.func65, Tryz.ntmps65
  go_wp2_with fail
  refine HF.out.mono ?_; rintro en w1 ⟨v1, rfl, hR1⟩
  have HB1 := Lib.hid hR1.bel
  obtain ⟨ra, rc, rfl, -, -, hI1⟩ := hR1.slice
  have HI := Lib.hid hI1
  have hdl' := hdl.out
  clear hR1 hI1 HF
  have HR0 := Lib.hid (rowT_nil w1 w1 (Below.refl _ _))
  go_wp2_with fail
  go_loopg [7, 18] (L.length + 1) (fun g v7 vi wr => ∃ j : Nat, vi = .int .i64 j ∧ j ≤ L.length ∧ L.length - j ≤ g ∧ Hid (RowT w1 wr v7 ((L.take j).map (·.2))))
  case atStart => exact ⟨0, rfl, Nat.zero_le _, by omega, HR0⟩
  case round =>
    obtain ⟨j, rfl, hj, hg, HR⟩ := hrel
    clear HR0
    by_cases hjl : j < L.length
    case pos =>
      have hjc : (j : Int) < (L.length : Int) := by omega
      obtain ⟨b, o, rfl, hbl, hat⟩ := HI.out.below (Nat.le_refl _) HR.out.bel (by omega)
      obtain ⟨e0, e1⟩ := hat j hjl
      have HZ : Hid ((L.take j).map (·.2) ++ [L[j].2] = (L.take (j + 1)).map (·.2)) := Lib.hid (by rw [← List.take_append_getElem hjl, List.map_append]; rfl)
      have HLe : Hid (((L.take j).map (·.2)).length ≤ 1000000) := Lib.hid (by rw [List.length_map]; have := List.length_take_le j L; omega)
      clear hat
      generalize L[j].1 = t at *
      generalize L[j].2 = k at *
      generalize hB : (L.take (j + 1)).map (·.2) = B at *
      have HBe := Lib.hid hB
      clear hB
      generalize (L.take j).map (·.2) = A at *
      have HR1 := Lib.hid (HR.out.below (bbox (.cells #[.int .i64 t, .string k] 145)))
      have HR2 := Lib.hid (HR1.out.below (bbox (.cells #[.string k] 9)))
      have HIn : Hid (InT ((wr.alloc (.cells #[.int .i64 t, .string k] 145)).alloc (.cells #[.string k] 9)) (some ⟨wr.heap.size + 1, 0, none⟩) [k]) := Lib.hid (by
        have h := inT_new (wr.alloc (.cells #[.int .i64 t, .string k] 145)) k 9
        rw [show (wr.alloc (.cells #[.int .i64 t, .string k] 145)).heap.size = wr.heap.size + 1 by simp] at h
        exact h)
      go_wp2_with (at_builtin; refine str_push HR2.out rfl _ _ rfl rfl [k] _ rfl rfl HIn.out ?hl ?hr ?_)
      case hl => exact Nat.le_trans HLe.out (Nat.le_of_ble_eq_true rfl)
      case hr => simp
      intro v5 w5 hR5
      have HR5 := Lib.hid hR5
      rw [HZ.out] at HR5
      clear hR5 e0 e1
      go_wp2_with fail
      go_roundg (gk - 1)
      case measure => omega
      case rel => exact ⟨j + 1, by go_num, by omega, by omega, by rw [HBe.out]; exact HR5⟩
    case neg =>
      have hjc : ¬ ((j : Int) < (L.length : Int)) := by omega
      obtain rfl : j = L.length := by omega
      rw [List.take_length] at HR
      go_wp2_with fail
      go_ret
      exact ⟨_, rfl, HR.out.over HB1.out⟩
theorem RowD.over {wa wb w : World} {v : Value} {l : List Du} (h : RowD wb w v l) (hb : Below wa.heap.size wa wb) : RowD wa w v l := by
  refine ⟨⟨h.row.1, ?_⟩, hb.trans (h.bel.mono hb.size)⟩
  rcases h.row.2 with h | ⟨g, cap, cur, h1, h2, h3⟩
  · exact Or.inl h
  · exact Or.inr ⟨g, cap, cur, h1, Nat.le_trans hb.size h2, h3⟩
theorem quietD {P : Program} {f : FuncId} {args : Array Value} {F : Nat → World} {x : Nat} {v : Value} (h : Calls P f args (F x) fun e w' => e = .returned v ∧ F x = w') : Calls P f args (F x) fun e w' => e = .returned v ∧ ∃ y, w' = F y :=
  h.mono fun _ _ ⟨he, hw⟩ => ⟨he, x, hw.symm⟩
end Go.Proofs.YtmjlhmohglbecaaGreatDoor.Ea
