/- Package recent: what the map says of the links; the object as it lies; New, Len, Has. Conditions: bounds on a key's length. -/
import Derived.Test.YtkpcobaklbfpcaaCa3
namespace Go.Proofs.Ytkpcobaklbfpcaa.Ca
open Go.ChangeShapes Go.WideShapes Go.ChangeAt Go.RowKit Go.Maps Go.WideMaps
def klit (k : ByteArray) : Lit := .string k.data.toList
theorem klit_ne {a b : ByteArray} (h : a ≠ b) : klit a ≠ klit b := fun e => h (by
  unfold klit at e
  injection e with e
  cases a; cases b
  simpa using e)
theorem klit_key (k : ByteArray) : WideAt.IsKeyLit (klit k) := True.intro
theorem keyed : Keyed Try.prog 9 := string_keyed Try.underlying9
theorem hkey {k : ByteArray} (h : k.size ≤ maxLen) : keyOf Try.prog 9 (.string k) = some (klit k) := keyOf_string_mk Try.underlying9 h
theorem zeroP (w : World) : (zeroValue 73).run Try.prog w = .ok (.pointer none) w := by kernel_rfl
/-- How a link's pointer reads here. -/
def ptrE : Value → Option (DataW Unit × List MemPlace)
  | .pointer none => some (.nil, [])
  | .pointer (some ⟨b, 0, none⟩) => some (.lit (.int .i64 b), [])
  | _ => none
def dat : Option Nat → DataW Unit
  | none => .nil
  | some b => .lit (.int .i64 b)
def ptr : Option Nat → Value
  | none => .pointer none
  | some b => .pointer (some ⟨b, 0, none⟩)
theorem ptrE_ptr (o : Option Nat) : ptrE (ptr o) = some (dat o, []) := by cases o <;> rfl
theorem ptrE_inv {v : Value} {o : Option Nat} {ps : List MemPlace} (h : ptrE v = some (dat o, ps)) : v = ptr o := by
  unfold ptrE at h
  split at h
  · cases o with
    | none => rfl
    | some b => have h := congrArg (fun x => x.map Prod.fst) h; simp [dat] at h
  · cases o with
    | none => have h := congrArg (fun x => x.map Prod.fst) h; simp [dat] at h
    | some b =>
      have h := congrArg (fun x => x.map Prod.fst) h
      simp [dat] at h
      have h : (_ : Nat) = b := Int.ofNat.inj h
      subst h; rfl
  · cases h
/-- The block of a key's link. -/
def look (L : Lk) (k : ByteArray) : Option Nat := (L.find? fun p => decide (p.2 = k)).map (·.1)
theorem look_none {L : Lk} {k : ByteArray} : look L k = none ↔ k ∉ L.map (·.2) := by
  unfold look
  rw [Option.map_eq_none_iff, List.find?_eq_none]
  simp only [decide_eq_true_eq, List.mem_map, not_exists, not_and]
theorem look_isSome {L : Lk} {k : ByteArray} : (look L k).isSome = inK k (L.map (·.2)) := by
  cases h : inK k (L.map (·.2)) with
  | true =>
    cases e : look L k with
    | none => exact absurd (inK_iff.1 h) (look_none.1 e)
    | some b => rfl
  | false => rw [look_none.2 (inK_false.1 h)]; rfl
theorem key_inj {L : Lk} (h : (L.map (·.2)).Nodup) {i j : Nat} (hi : i < L.length) (hj : j < L.length) (e : L[i].2 = L[j].2) : i = j := by
  have := (List.getElem_inj (h₀ := by rw [List.length_map]; exact hi) (h₁ := by rw [List.length_map]; exact hj) h (i := i) (j := j)).1 (by simpa using e)
  exact this
theorem look_at {L : Lk} (h : (L.map (·.2)).Nodup) {j : Nat} (hj : j < L.length) : look L L[j].2 = some L[j].1 := by
  unfold look
  cases e : L.find? fun p => decide (p.2 = L[j].2) with
  | none =>
    have := List.find?_eq_none.1 e L[j] (List.getElem_mem hj)
    simp at this
  | some q =>
    have h1 := List.find?_some e
    simp only [decide_eq_true_eq] at h1
    obtain ⟨i, hi, rfl⟩ := List.mem_iff_getElem.1 (List.mem_of_find?_eq_some e)
    have := key_inj h hi hj h1
    subst this; rfl
theorem look_idx {L : Lk} {k : ByteArray} {b : Nat} (h : look L k = some b) : ∃ j, ∃ hj : j < L.length, L[j] = (b, k) := by
  unfold look at h
  cases e : L.find? fun p => decide (p.2 = k) with
  | none => rw [e] at h; cases h
  | some q =>
    rw [e] at h
    cases h
    have h1 := List.find?_some e
    simp only [decide_eq_true_eq] at h1
    obtain ⟨i, hi, hq⟩ := List.mem_iff_getElem.1 (List.mem_of_find?_eq_some e)
    exact ⟨i, hi, by rw [hq]; cases q; cases h1; rfl⟩
theorem look_app {L : Lk} {k k' : ByteArray} {x : Nat} : look (L ++ [(x, k)]) k' = (look L k').or (if k' = k then some x else none) := by
  unfold look
  rw [List.find?_append, Option.map_or]
  congr 1
  by_cases h : k' = k
  · subst h; simp
  · rw [if_neg h, List.find?_cons_of_neg (by simpa using fun e => h e.symm)]; rfl
/-- The links without a key's. -/
def dropL (k : ByteArray) (L : Lk) : Lk := L.filter fun p => !decide (p.2 = k)
theorem dropL_map (k : ByteArray) (L : Lk) : (dropL k L).map (·.2) = dropK k (L.map (·.2)) := by
  unfold dropL dropK
  rw [List.filter_map]
  rfl
theorem dropL_erase : ∀ {L : Lk} (_h : (L.map (·.2)).Nodup) {j : Nat} (hj : j < L.length), dropL L[j].2 L = L.eraseIdx j
  | [], _, j, hj => absurd hj (Nat.not_lt_zero _)
  | x :: r, h, 0, hj => by
    have hx : x.2 ∉ r.map (·.2) := (List.nodup_cons.1 h).1
    show List.filter _ (x :: r) = r
    rw [List.filter_cons_of_neg (by simp)]
    refine List.filter_eq_self.2 fun q hq => ?_
    have : q.2 ≠ x.2 := fun e => hx (e ▸ List.mem_map_of_mem hq)
    simpa using this
  | x :: r, h, j + 1, hj => by
    have hx := List.nodup_cons.1 h
    have hjr : j < r.length := by simpa using hj
    have hne : x.2 ≠ r[j].2 := fun e => hx.1 (by show x.2 ∈ _; rw [e]; exact List.mem_map_of_mem (List.getElem_mem hjr))
    show List.filter _ (x :: r) = x :: r.eraseIdx j
    rw [List.filter_cons_of_pos (by simpa using hne)]
    exact congrArg _ (dropL_erase hx.2 hjr)
theorem dropL_none {L : Lk} {k : ByteArray} (h : look L k = none) : dropL k L = L := by
  refine List.filter_eq_self.2 fun q hq => ?_
  have : q.2 ≠ k := fun e => look_none.1 h (e ▸ List.mem_map_of_mem hq)
  simpa using this
theorem look_drop_same (k : ByteArray) (L : Lk) : look (dropL k L) k = none := by
  rw [look_none, dropL_map, mem_dropK]
  exact fun h => h.2 rfl
theorem look_drop_other {k k' : ByteArray} (h : k' ≠ k) (L : Lk) : look (dropL k L) k' = look L k' := by
  unfold look dropL
  rw [find_filter_keep (fun p hp => by
    have hp := of_decide_eq_true hp
    rw [hp]; simpa using h)]
/-- A map that says where each key's link is. -/
structure KI (L : Lk) (D : DataW Unit) : Prop where
  ti : Tidy D
  hs : ∀ k, Maps.has D (klit k) = (look L k).isSome
  av : ∀ k, D.atKey (klit k) .nil = dat (look L k)
  sz : Maps.size D = L.length
theorem KI.new : KI [] (.map []) := ⟨tidy_empty, fun _ => rfl, fun _ => rfl, rfl⟩
theorem KI.put {L : Lk} {D : DataW Unit} (h : KI L D) {k : ByteArray} (hk : look L k = none) (x : Nat) : KI (L ++ [(x, k)]) (D.put (klit k) (dat (some x))) := by
  refine ⟨h.ti.put (klit_key k) _, fun k' => ?_, fun k' => ?_, ?_⟩
  · rw [look_app]
    by_cases hkk : k' = k
    · subst hkk; rw [if_pos rfl, has_put_same h.ti.isMap (klit_key _), hk]; rfl
    · rw [if_neg hkk, has_put_other (klit_ne hkk), Option.or_none]; exact h.hs k'
  · rw [look_app]
    by_cases hkk : k' = k
    · subst hkk; rw [if_pos rfl, atKey_put_same h.ti.isMap (klit_key _), hk]; rfl
    · rw [if_neg hkk, atKey_put_other (klit_ne hkk), Option.or_none]; exact h.av k'
  · rw [size_put h.ti, h.hs, hk, if_neg (by decide), h.sz, List.length_append]; rfl
theorem KI.drop {L : Lk} {D : DataW Unit} (h : KI L D) (hn : (L.map (·.2)).Nodup) (k : ByteArray) : KI (dropL k L) (D.del (klit k)) := by
  refine ⟨h.ti.del _, fun k' => ?_, fun k' => ?_, ?_⟩
  · by_cases hkk : k' = k
    · subst hkk; rw [look_drop_same, has_del_same]; rfl
    · rw [look_drop_other hkk, has_del_other (klit_ne hkk)]; exact h.hs k'
  · by_cases hkk : k' = k
    · subst hkk; rw [look_drop_same, atKey_del_same]; rfl
    · rw [look_drop_other hkk, atKey_del_other (klit_ne hkk)]; exact h.av k'
  · have e := size_del (k := klit k) h.ti
    rw [h.hs, h.sz] at e
    cases hk : look L k with
    | none => rw [dropL_none hk]; rw [hk] at e; simpa using e
    | some b =>
      obtain ⟨j, hj, he⟩ := look_idx hk
      have e2 := dropL_erase hn hj
      rw [he] at e2
      rw [e2, List.length_eraseIdx_of_lt hj]
      rw [hk] at e
      simp at e
      omega
theorem KI.touch {L : Lk} {D : DataW Unit} (h : KI L D) (hn : (L.map (·.2)).Nodup) {k : ByteArray} {b : Nat} (hk : look L k = some b) : KI (dropL k L ++ [(b, k)]) D := by
  have e : ∀ k', look (dropL k L ++ [(b, k)]) k' = look L k' := fun k' => by
    rw [look_app]
    by_cases hkk : k' = k
    · subst hkk; rw [look_drop_same, if_pos rfl, hk]; rfl
    · rw [look_drop_other hkk, if_neg hkk, Option.or_none]
  refine ⟨h.ti, fun k' => by rw [e]; exact h.hs k', fun k' => by rw [e]; exact h.av k', ?_⟩
  obtain ⟨j, hj, he⟩ := look_idx hk
  have e2 := dropL_erase hn hj
  rw [he] at e2
  rw [e2, List.length_append, List.length_eraseIdx_of_lt hj, h.sz]
  show _ = _ + 1
  omega
theorem own_norm {H : Type} {P : Program} {k : TypeId} {R : Value → Option (DataW H × List MemPlace)} {w : World} {b n : Nat} {D : DataW H} (h : w.ownsMap P k R b n D) : w.ownsMap P k R b (Maps.size D) D := by
  obtain ⟨es, clock, hb, F, hs, rfl⟩ := h
  exact ⟨es, clock, hb, F, by rw [Maps.size_eq, length_read]; exact Nat.le_refl _, rfl⟩
theorem map_same {H : Type} {P : Program} {k : TypeId} {R : Value → Option (DataW H × List MemPlace)} {w w' : World} {b n : Nat} {D : DataW H} (h : w.ownsMap P k R b n D) (e : w'.heap[b]? = w.heap[b]?) : w'.ownsMap P k R b n D := by
  obtain ⟨es, clock, hb, F, hs, hD⟩ := h
  exact ⟨es, clock, e.trans hb, F, hs, hD⟩
theorem map_ne {H : Type} {P : Program} {k : TypeId} {R : Value → Option (DataW H × List MemPlace)} {w : World} {b n : Nat} {D : DataW H} (h : w.ownsMap P k R b n D) {x j : Nat} {v : Value} (hc : w.cell? ⟨x, j, none⟩ = some v) : x ≠ b := by
  rintro rfl
  obtain ⟨es, clock, hb, -⟩ := h
  simp [World.cell?, hb] at hc
/-- The object: block T; its map M; its ring. -/
structure RAt (w : World) (T M E : Nat) (L : Lk) (D : DataW Unit) : Prop where
  c0 : w.cell? ⟨T, 0, none⟩ = some (.map (some M))
  c1 : w.cell? ⟨T, 1, none⟩ = some (.pointer (some ⟨E, 0, none⟩))
  ft : ∀ j, w.frozen? ⟨T, j, none⟩ = false
  map : w.ownsMap Try.prog 9 ptrE M L.length D
  ki : KI L D
  ring : Ring w E L
  kn : (L.map (·.2)).Nodup
  tn : ∀ i, i ≤ L.length → nd E L i ≠ T
/-- The blocks of an object. -/
def own (T M E : Nat) (L : Lk) (x : Nat) : Prop := x = T ∨ x = M ∨ ∃ i, i ≤ L.length ∧ x = nd E L i
section
variable {w w' : World} {T M E : Nat} {L : Lk} {D : DataW Unit}
theorem RAt.lt (h : RAt w T M E L D) {x : Nat} (hx : own T M E L x) : x < w.heap.size := by
  rcases hx with rfl | rfl | ⟨i, hi, rfl⟩
  · exact World.block_lt_of_cell? w _ h.c0
  · exact h.map.lt
  · exact h.ring.lt hi
theorem RAt.keep (h : RAt w T M E L D) (hb : ∀ x, own T M E L x → w'.heap[x]? = w.heap[x]?) : RAt w' T M E L D := by
  have hT := hb T (.inl rfl)
  refine ⟨?_, ?_, fun j => (World.frozen?_of_block (a := ⟨T, j, none⟩) hT).trans (h.ft j), map_same h.map (hb M (.inr (.inl rfl))), h.ki, h.ring.keep fun i hi => hb _ (.inr (.inr ⟨i, hi, rfl⟩)), h.kn, h.tn⟩
  · exact (World.cell?_of_block (a := ⟨T, 0, none⟩) hT).trans h.c0
  · exact (World.cell?_of_block (a := ⟨T, 1, none⟩) hT).trans h.c1
theorem RAt.below (h : RAt w T M E L D) (hb : Below w.heap.size w w') : RAt w' T M E L D := h.keep fun x hx => hb.block x (h.lt hx)
theorem RAt.mt (h : RAt w T M E L D) : T ≠ M := map_ne h.map h.c0
theorem RAt.mn (h : RAt w T M E L D) {i : Nat} (hi : i ≤ L.length) : nd E L i ≠ M := map_ne h.map (h.ring.up i hi)
/-- 'r.links[k]', with 'ok', as an equation on the run. -/
theorem RAt.look_run (h : RAt w T M E L D) (k : ByteArray) (hk : k.size ≤ maxLen) : (Instr.lookup 72 (.map (some M)) (.string k) true).run Try.prog w = .ok (.tuple #[ptr (look L k), .bool (look L k).isSome]) w := by
  obtain ⟨v, ps, hrun, hv⟩ := h.map.look_ok (t := 72) (e := 73) keyed Try.underlying72 (zeroP _) (zd := .nil) (zp := []) rfl (key := .string k) (hkey hk)
  rw [h.ki.av] at hv
  rw [ptrE_inv hv, h.ki.hs] at hrun
  exact hrun
end
set_option maxHeartbeats 4000000 in
set_option maxRecDepth 100000 in
theorem len_calls {w : World} {T M E : Nat} {L : Lk} {D : DataW Unit} (h : RAt w T M E L D) :
    Calls Try.prog 29 #[.pointer (some ⟨T, 0, none⟩)] w fun e w' => e = .returned (.int .i64 L.length) ∧ w = w' := by
  have c0 := h.c0
  have hlen := fun ty => h.map.len (t := 72) (e := 73) Try.underlying72 ty
  rw [h.ki.sz] at hlen
  clear h
  go_enter Try.func29, Try.ntmps29
  go_wp2_with fail
  go_ret
  exact ⟨rfl, rfl⟩
set_option maxHeartbeats 4000000 in
set_option maxRecDepth 100000 in
theorem has_calls {w : World} {T M E : Nat} {L : Lk} {D : DataW Unit} (h : RAt w T M E L D) (k : ByteArray) (hk : k.size ≤ maxLen) :
    Calls Try.prog 33 #[.pointer (some ⟨T, 0, none⟩), .string k] w fun e w' => e = .returned (.bool (look L k).isSome) ∧ w = w' := by
  have c0 := h.c0
  have hrun := h.look_run k hk
  clear h
  generalize ptr (look L k) = v at *
  generalize (look L k).isSome = b at *
  go_enter Try.func33, Try.ntmps33
  go_wp2_with fail
  go_ret
  exact ⟨rfl, rfl⟩
end Go.Proofs.Ytkpcobaklbfpcaa.Ca
