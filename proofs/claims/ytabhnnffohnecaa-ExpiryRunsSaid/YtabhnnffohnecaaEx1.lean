/- Package expiry: what the map says of the dues; the object as it lies; New, Len, Get, Next. Conditions: bounds on a key's length. -/
import Derived.Test.YtabhnnffohnecaaEf3
namespace Go.Proofs.Ytabhnnffohnecaa.Ea
open Go.ChangeShapes Go.WideShapes Go.ChangeAt Go.RowKit Go.Maps Go.WideMaps
def klit (k : ByteArray) : Lit := .string k.data.toList
theorem klit_ne {a b : ByteArray} (h : a ≠ b) : klit a ≠ klit b := fun e => h (by
  unfold klit at e
  injection e with e
  cases a; cases b
  simpa using e)
theorem klit_key (k : ByteArray) : WideAt.IsKeyLit (klit k) := True.intro
theorem keyed : Keyed Try.prog 9 := string_keyed Try.underlying9
theorem hkey {k : ByteArray} (h : k.size ≤ maxLen) : keyOf Try.prog 9 (.string k) = some (klit k) := keyOf_string_mk Try.underlying9 h
theorem zeroP (w : World) : (zeroValue 61).run Try.prog w = .ok (.pointer none) w := by kernel_rfl
/-- How a due's pointer reads here. -/
def ptrE : Value → Option (DataW Unit × List MemPlace)
  | .pointer none => some (.nil, [])
  | .pointer (some ⟨b, 0, none⟩) => some (.lit (.int .i64 b), [])
  | _ => none
def dat : Option Nat → DataW Unit
  | none => .nil
  | some b => .lit (.int .i64 b)
def ptrO : Option Nat → Value
  | none => .pointer none
  | some b => .pointer (some ⟨b, 0, none⟩)
theorem ptrE_inv {v : Value} {o : Option Nat} {ps : List MemPlace} (h : ptrE v = some (dat o, ps)) : v = ptrO o := by
  unfold ptrE at h
  split at h
  · cases o with
    | none => rfl
    | some b => have h := congrArg (fun x => x.map Prod.fst) h; simp [dat] at h
  · cases o with
    | none => have h := congrArg (fun x => x.map Prod.fst) h; simp [dat] at h
    | some b =>
      have h := congrArg (fun x => x.map Prod.fst) h
      simp [dat] at h
      have h : (_ : Nat) = b := Int.ofNat.inj h
      subst h; rfl
  · cases h
/-- The block of a key's due. -/
def look (L : List En) (k : ByteArray) : Option Nat := (L.find? fun p => decide (p.k = k)).map (·.b)
theorem look_none {L : List En} {k : ByteArray} : look L k = none ↔ ∀ e ∈ L, e.k ≠ k := by
  unfold look
  rw [Option.map_eq_none_iff, List.find?_eq_none]
  simp only [decide_eq_true_eq]
theorem key_inj {L : List En} (h : (L.map (·.k)).Nodup) {i j : Nat} (hi : i < L.length) (hj : j < L.length) (e : L[i].k = L[j].k) : i = j :=
  (List.getElem_inj (h₀ := by rw [List.length_map]; exact hi) (h₁ := by rw [List.length_map]; exact hj) h (i := i) (j := j)).1 (by simpa using e)
theorem look_at {L : List En} (h : (L.map (·.k)).Nodup) {j : Nat} (hj : j < L.length) : look L L[j].k = some L[j].b := by
  unfold look
  cases e : L.find? fun p => decide (p.k = L[j].k) with
  | none =>
    have := List.find?_eq_none.1 e L[j] (List.getElem_mem hj)
    simp at this
  | some q =>
    have h1 := List.find?_some e
    simp only [decide_eq_true_eq] at h1
    obtain ⟨i, hi, rfl⟩ := List.mem_iff_getElem.1 (List.mem_of_find?_eq_some e)
    have := key_inj h hi hj h1
    subst this; rfl
theorem look_idx {L : List En} {k : ByteArray} {b : Nat} (h : look L k = some b) : ∃ j, ∃ hj : j < L.length, L[j].b = b ∧ L[j].k = k := by
  unfold look at h
  cases e : L.find? fun p => decide (p.k = k) with
  | none => rw [e] at h; cases h
  | some q =>
    rw [e] at h
    cases h
    have h1 := List.find?_some e
    simp only [decide_eq_true_eq] at h1
    obtain ⟨i, hi, hq⟩ := List.mem_iff_getElem.1 (List.mem_of_find?_eq_some e)
    exact ⟨i, hi, by rw [hq], by rw [hq]; exact h1⟩
theorem look_mem {L : List En} (h : (L.map (·.k)).Nodup) {k : ByteArray} {b : Nat} : look L k = some b ↔ ∃ e ∈ L, e.k = k ∧ e.b = b := by
  constructor
  · intro hl
    obtain ⟨j, hj, h1, h2⟩ := look_idx hl
    exact ⟨L[j], List.getElem_mem hj, h2, h1⟩
  · rintro ⟨e, he, rfl, rfl⟩
    obtain ⟨j, hj, rfl⟩ := List.mem_iff_getElem.1 he
    exact look_at h hj
theorem look_ext {L L' : List En} (h : (L.map (·.k)).Nodup) (h' : (L'.map (·.k)).Nodup) {k : ByteArray} (hm : ∀ b, (∃ e ∈ L, e.k = k ∧ e.b = b) ↔ ∃ e ∈ L', e.k = k ∧ e.b = b) : look L k = look L' k := by
  cases e : look L k with
  | some b => exact ((look_mem h').2 ((hm b).1 ((look_mem h).1 e))).symm
  | none =>
    cases e2 : look L' k with
    | none => rfl
    | some b =>
      have := (look_mem h).2 ((hm b).2 ((look_mem h').1 e2))
      rw [e] at this; cases this
theorem nodup_perm {L L' : List En} (h : (L.map (·.k)).Nodup) (hp : List.Perm L' L) : (L'.map (·.k)).Nodup := (hp.map _).nodup_iff.2 h
theorem look_perm {L L' : List En} (h : (L.map (·.k)).Nodup) (hp : List.Perm L' L) (k : ByteArray) : look L' k = look L k :=
  look_ext (nodup_perm h hp) h fun b => by simp only [hp.mem_iff]
/-- A map that says where each key's due is. -/
structure KI (L : List En) (D : DataW Unit) : Prop where
  ti : Tidy D
  hs : ∀ k, Maps.has D (klit k) = (look L k).isSome
  av : ∀ k, D.atKey (klit k) .nil = dat (look L k)
  sz : Maps.size D = L.length
theorem KI.new : KI [] (.map []) := ⟨tidy_empty, fun _ => rfl, fun _ => rfl, rfl⟩
/-- Where the same keys lie in the same blocks. -/
theorem KI.same {L L' : List En} {D : DataW Unit} (h : KI L D) (hl : ∀ k, look L' k = look L k) (hn : L'.length = L.length) : KI L' D :=
  ⟨h.ti, fun k => by rw [hl]; exact h.hs k, fun k => by rw [hl]; exact h.av k, by rw [hn]; exact h.sz⟩
theorem look_app {L : List En} {e : En} {k' : ByteArray} : look (L ++ [e]) k' = (look L k').or (if k' = e.k then some e.b else none) := by
  unfold look
  rw [List.find?_append, Option.map_or]
  congr 1
  by_cases h : k' = e.k
  · subst h; simp
  · rw [if_neg h, List.find?_cons_of_neg (by simpa using fun e => h e.symm)]; rfl
theorem KI.put {L : List En} {D : DataW Unit} (h : KI L D) {e : En} (hk : look L e.k = none) : KI (L ++ [e]) (D.put (klit e.k) (dat (some e.b))) := by
  refine ⟨h.ti.put (klit_key e.k) _, fun k' => ?_, fun k' => ?_, ?_⟩
  · rw [look_app]
    by_cases hkk : k' = e.k
    · subst hkk; rw [if_pos rfl, has_put_same h.ti.isMap (klit_key _), hk]; rfl
    · rw [if_neg hkk, has_put_other (klit_ne hkk), Option.or_none]; exact h.hs k'
  · rw [look_app]
    by_cases hkk : k' = e.k
    · subst hkk; rw [if_pos rfl, atKey_put_same h.ti.isMap (klit_key _), hk]; rfl
    · rw [if_neg hkk, atKey_put_other (klit_ne hkk), Option.or_none]; exact h.av k'
  · rw [size_put h.ti, h.hs, hk, if_neg (by decide), h.sz, List.length_append]; rfl
/-- One gone. -/
theorem KI.drop {L L' : List En} {D : DataW Unit} {e : En} (h : KI L D) (hn : (L.map (·.k)).Nodup) (hp : List.Perm (L' ++ [e]) L) : KI L' (D.del (klit e.k)) := by
  have hn1 := nodup_perm hn hp
  have hl : ∀ k', look L k' = (look L' k').or (if k' = e.k then some e.b else none) := fun k' => by rw [← look_perm hn hp, look_app]
  have hne : look L' e.k = none := look_none.2 fun x hx hk => by
    rw [List.map_append] at hn1
    exact (List.nodup_append.1 hn1).2.2 _ (List.mem_map_of_mem hx) _ (by simp) hk
  refine ⟨h.ti.del _, fun k' => ?_, fun k' => ?_, ?_⟩
  · by_cases hkk : k' = e.k
    · subst hkk; rw [hne, has_del_same]; rfl
    · have := hl k'
      rw [if_neg hkk, Option.or_none] at this
      rw [← this, has_del_other (klit_ne hkk)]; exact h.hs k'
  · by_cases hkk : k' = e.k
    · subst hkk; rw [hne, atKey_del_same]; rfl
    · have := hl k'
      rw [if_neg hkk, Option.or_none] at this
      rw [← this, atKey_del_other (klit_ne hkk)]; exact h.av k'
  · have e1 := size_del (k := klit e.k) h.ti
    rw [h.hs, h.sz, hl, hne, if_pos rfl] at e1
    have e2 := hp.length_eq
    rw [List.length_append] at e2
    simp at e1 e2
    omega
theorem own_norm {H : Type} {P : Program} {k : TypeId} {R : Value → Option (DataW H × List MemPlace)} {w : World} {b n : Nat} {D : DataW H} (h : w.ownsMap P k R b n D) : w.ownsMap P k R b (Maps.size D) D := by
  obtain ⟨es, clock, hb, F, hs, rfl⟩ := h
  exact ⟨es, clock, hb, F, by rw [Maps.size_eq, length_read]; exact Nat.le_refl _, rfl⟩
theorem map_same {H : Type} {P : Program} {k : TypeId} {R : Value → Option (DataW H × List MemPlace)} {w w' : World} {b n : Nat} {D : DataW H} (h : w.ownsMap P k R b n D) (e : w'.heap[b]? = w.heap[b]?) : w'.ownsMap P k R b n D := by
  obtain ⟨es, clock, hb, F, hs, hD⟩ := h
  exact ⟨es, clock, e.trans hb, F, hs, hD⟩
theorem map_ne {H : Type} {P : Program} {k : TypeId} {R : Value → Option (DataW H × List MemPlace)} {w : World} {b n : Nat} {D : DataW H} (h : w.ownsMap P k R b n D) {x j : Nat} {v : Value} (hc : w.cell? ⟨x, j, none⟩ = some v) : x ≠ b := by
  rintro rfl
  obtain ⟨es, clock, hb, -⟩ := h
  simp [World.cell?, hb] at hc
theorem map_row {H : Type} {P : Program} {k : TypeId} {R : Value → Option (DataW H × List MemPlace)} {w : World} {b n : Nat} {D : DataW H} (h : w.ownsMap P k R b n D) {base : Nat} {e : TypeId} {size m : Nat} {v : Value} {xs : List Value} (hr : w.ownsRow base e size v m xs) : v.ownBlock ≠ some b := by
  obtain ⟨es, clock, hb, -⟩ := h
  rcases hr.2 with ⟨e1, -⟩ | ⟨g, cap, cur, e1, -, hg, -⟩
  · rw [e1]; simp [Value.ownBlock]
  · rw [e1]
    intro e2
    have e2 : g = b := Option.some.inj e2
    subst e2
    rw [hb] at hg; cases hg
/-- The object: block T; its map M; its heap. -/
structure XA (w : World) (T M : Nat) (v : Value) (l : List En) (D : DataW Unit) : Prop where
  d : DAt w T v l
  c1 : w.cell? ⟨T, 0 + 1, none⟩ = some (.map (some M))
  map : w.ownsMap Try.prog 9 ptrE M l.length D
  ki : KI l D
  kn : (l.map (·.k)).Nodup
  hp : Hp (leB ltN) l l.length
/-- The blocks of an object. -/
def own (T M : Nat) (v : Value) (l : List En) (x : Nat) : Prop := x = M ∨ ownD T v l x
section
variable {w w' : World} {T M : Nat} {v : Value} {l : List En} {D : DataW Unit}
theorem XA.lt (h : XA w T M v l D) {x : Nat} (hx : own T M v l x) : x < w.heap.size := by
  rcases hx with rfl | hx
  · exact h.map.lt
  · exact h.d.own_lt hx
theorem XA.keep (h : XA w T M v l D) (hb : ∀ x, own T M v l x → w'.heap[x]? = w.heap[x]?) : XA w' T M v l D :=
  ⟨h.d.keep fun x hx => hb x (.inr hx), (World.cell?_of_block (a := ⟨T, 1, none⟩) (hb T (.inr (.inl rfl)))).trans h.c1, map_same h.map (hb M (.inl rfl)), h.ki, h.kn, h.hp⟩
theorem XA.below (h : XA w T M v l D) (hb : Below w.heap.size w w') : XA w' T M v l D := h.keep fun x hx => hb.block x (h.lt hx)
/-- The map's block is none of the heap's. -/
theorem XA.mn (h : XA w T M v l D) : ¬ ownD T v l M := by
  rintro (e | e | ⟨x, hx, e⟩)
  · exact map_ne h.map h.c1 e.symm
  · exact map_row h.map h.d.hp.row e
  · obtain ⟨i, hi, rfl⟩ := List.mem_iff_getElem.1 hx
    exact map_ne h.map (h.d.hp.nd i hi).c0 e.symm
/-- 'x.found[k]', with 'ok', as an equation on the run. -/
theorem XA.look_run (h : XA w T M v l D) (k : ByteArray) (hk : k.size ≤ maxLen) : (Instr.lookup 54 (.map (some M)) (.string k) true).run Try.prog w = .ok (.tuple #[ptrO (look l k), .bool (look l k).isSome]) w := by
  obtain ⟨u, ps, hrun, hv⟩ := h.map.look_ok (t := 54) (e := 61) keyed Try.underlying54 (zeroP _) (zd := .nil) (zp := []) rfl (key := .string k) (hkey hk)
  rw [h.ki.av] at hv
  rw [ptrE_inv hv, h.ki.hs] at hrun
  exact hrun
end
set_option maxHeartbeats 4000000 in
set_option maxRecDepth 100000 in
theorem xlen_calls {w : World} {T M : Nat} {v : Value} {l : List En} {D : DataW Unit} (h : XA w T M v l D) :
    Calls Try.prog 17 #[.pointer (some ⟨T, 0, none⟩)] w fun e w' => e = .returned (.int .i64 l.length) ∧ w = w' := by
  have c0 := h.d.c0
  obtain ⟨a, c, rfl, -, -, -⟩ := h.d.hp.slice
  clear h
  go_enter Try.func17, Try.ntmps17
  go_wp2_with fail
  go_ret
  exact ⟨rfl, rfl⟩
set_option maxHeartbeats 4000000 in
set_option maxRecDepth 100000 in
theorem xget_some {w : World} {T M : Nat} {v : Value} {l : List En} {D : DataW Unit} (h : XA w T M v l D) (j : Nat) (hj : j < l.length) (hk : l[j].k.size ≤ maxLen) :
    Calls Try.prog 15 #[.pointer (some ⟨T, 0, none⟩), .string l[j].k] w fun e w' => e = .returned (.tuple #[.int .i64 l[j].t, .bool true]) ∧ w = w' := by
  have c1 := h.c1
  have hrun := h.look_run l[j].k hk
  rw [look_at h.kn hj] at hrun
  have n0 := (h.d.hp.nd j hj).c0
  clear h hk
  generalize l[j].k = k at *
  generalize l[j].t = t at *
  generalize l[j].b = b at *
  simp only [ptrO, Option.isSome_some] at hrun
  go_enter Try.func15, Try.ntmps15
  go_wp2_with fail
  go_ret2
  exact ⟨rfl, rfl⟩
set_option maxHeartbeats 4000000 in
set_option maxRecDepth 100000 in
theorem xget_none {w : World} {T M : Nat} {v : Value} {l : List En} {D : DataW Unit} (h : XA w T M v l D) (k : ByteArray) (hk : k.size ≤ maxLen) (hl : look l k = none) :
    Calls Try.prog 15 #[.pointer (some ⟨T, 0, none⟩), .string k] w fun e w' => e = .returned (.tuple #[.int .i64 0, .bool false]) ∧ w = w' := by
  have c1 := h.c1
  have hrun := h.look_run k hk
  rw [hl] at hrun
  clear h hk
  simp only [ptrO, Option.isSome_none] at hrun
  go_enter Try.func15, Try.ntmps15
  go_wp2_with fail
  go_ret2
  exact ⟨rfl, rfl⟩
end Go.Proofs.Ytabhnnffohnecaa.Ea
