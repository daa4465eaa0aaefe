/- Package table: a table's keys, in order, each once; what is done beside blocks of the caller's own. No condition. -/
import Derived.Test.YtmjlhmohglbecaaGreatDoorTaE
import Derived.Test.YtmjlhmohglbecaaGreatDoorTal
namespace Go.Proofs.YtmjlhmohglbecaaGreatDoor.Ta
open Go.ChangeShapes Go.WideShapes Go.ChangeAt Go.RowKit Go.Maps Go.WideMaps
theorem entL_mem {l : List Pl} {x : List UInt8} (h : x ∈ entL l) : ∃ k n, x = k.data.toList ∧ k.size ≤ k.size ∧ Ent l k n := by
  unfold entL at h
  obtain ⟨q, hq, rfl⟩ := List.mem_map.1 h
  obtain ⟨hq, h1⟩ := List.mem_filter.1 hq
  obtain ⟨p, hp, rfl⟩ := List.mem_iff_getElem.1 hq
  refine ⟨l[p].k, l[p].n, rfl, Nat.le_refl _, p, hp, ?_⟩
  have e := eq_of_beq h1
  rw [pAt_lt hp]
  cases hl : l[p] with
  | mk a b c => rw [hl] at e; cases e; rfl
theorem entL_nodup {l : List Pl} (h : Unq l) : (entL l).Pairwise (· ≠ ·) := by
  unfold entL
  rw [List.pairwise_map, List.pairwise_filter, List.pairwise_iff_getElem]
  intro p q hp hq hpq h1 h2 e
  have h3 := h p q hp hq (by rw [pAt_lt hp]; exact eq_of_beq h1) (by rw [pAt_lt hq]; exact eq_of_beq h2) (by
    rw [pAt_lt hp, pAt_lt hq]
    refine ba_inj ?_
    rw [Lib.toList_data, Lib.toList_data]; exact e)
  omega
theorem entL_len {l : List Pl} {e d : Int} (h : PsOk l e d) : ((entL l).length : Int) = e := by
  unfold entL
  rw [List.length_map, ← List.countP_eq_length_filter, h.ce]
theorem keysS_perm (s : St) : (keysS s).Perm (entL s.now ++ entL s.nxt) := List.mergeSort_perm _ _
theorem keysS_len {s : St} {c : Int} (h : Ok c s) : ((keysS s).length : Int) = lenS s := by
  rw [(keysS_perm s).length_eq, List.length_append]
  have := entL_len h.a
  have := entL_len h.b
  unfold lenS
  omega
theorem keysS_mem {s : St} {x : List UInt8} (h : x ∈ keysS s) : ∃ k n, x = k.data.toList ∧ Has s k n := by
  have h := (keysS_perm s).mem_iff.1 h
  rcases List.mem_append.1 h with h | h
  · obtain ⟨k, n, e, -, hE⟩ := entL_mem h
    exact ⟨k, n, e, .inl hE⟩
  · obtain ⟨k, n, e, -, hE⟩ := entL_mem h
    exact ⟨k, n, e, .inr hE⟩
theorem keysS_size {s : St} {c : Int} (hO : Ok c s) {k : ByteArray} {n : Int} (h : Has s k n) : k.size ≤ 1000 := by
  rcases h with ⟨p, hp, e⟩ | ⟨p, hp, e⟩
  · have := hO.a.at_k p
    rw [e] at this; exact this
  · have := hO.b.at_k p
    rw [e] at this; exact this
theorem keysS_nodup {s : St} (h : Kp s) : (keysS s).Pairwise (· ≠ ·) := by
  refine ((keysS_perm s).pairwise_iff (fun {a b} (hab : a ≠ b) => hab.symm)).2 ?_
  rw [List.pairwise_append]
  refine ⟨entL_nodup h.ua, entL_nodup h.ub, fun x hx y hy e => ?_⟩
  obtain ⟨k, n, e1, -, hE⟩ := entL_mem hx
  obtain ⟨k', n', e2, -, hE'⟩ := entL_mem hy
  have : k = k' := ba_inj (by rw [Lib.toList_data, Lib.toList_data, ← e1, ← e2]; exact e)
  subst this
  exact h.ap _ _ _ hE hE'
theorem keysS_sorted (s : St) : (keysS s).Pairwise (fun x y => decide (x ≤ y) = true) := by
  refine List.pairwise_mergeSort (le := fun x y => decide (x ≤ y)) ?_ ?_ _
  · intro a b c h1 h2
    exact decide_eq_true (List.le_trans (of_decide_eq_true h1) (of_decide_eq_true h2))
  · intro a b
    rcases List.le_total a b with h | h
    · simp [h]
    · simp [h]
theorem keysS_less {s : St} (h : Kp s) {i : Nat} (hi : i + 1 < (keysS s).length) : Op.bytesLess (keysS s)[i] (keysS s)[i + 1] = true := by
  have h1 := of_decide_eq_true (List.pairwise_iff_getElem.1 (keysS_sorted s) i (i + 1) (by omega) hi (by omega))
  have h2 := List.pairwise_iff_getElem.1 (keysS_nodup h) i (i + 1) (by omega) hi (by omega)
  rw [Go.Proofs.bytesLess_eq]
  refine decide_eq_true ?_
  by_cases h3 : (keysS s)[i] < (keysS s)[i + 1]
  · exact h3
  · exact absurd (List.le_antisymm h1 (List.not_lt.1 h3)) h2
theorem keysS_at {s : St} {c : Int} (h : Kp s) (hO : Ok c s) {i : Nat} (hi : i < (keysS s).length) : ∃ k : ByteArray, (⟨(keysS s)[i].toArray⟩ : ByteArray) = k ∧ k.toList = (keysS s)[i] ∧ (look s k).isSome = true ∧ k.size ≤ 1000 := by
  obtain ⟨k, n, e, hH⟩ := keysS_mem (List.getElem_mem hi)
  refine ⟨k, by rw [e], by rw [Lib.toList_data, e], by rw [(h.look_iff k n).2 hH]; rfl, keysS_size hO hH⟩
/-- What was laid behind w by the caller stands. -/
def Stays (w wb w' : World) : Prop := ∀ x, w.heap.size ≤ x → x < wb.heap.size → w'.heap[x]? = wb.heap[x]?
theorem Stays.cell {w wb w' : World} (h : Stays w wb w') {x i : Nat} {v : Value} (hx : w.heap.size ≤ x) (hb : wb.cell? ⟨x, i, none⟩ = some v) : w'.cell? ⟨x, i, none⟩ = some v := by
  have := h x hx (World.block_lt_of_cell? wb _ hb)
  simp only [World.cell?, this] at hb ⊢
  exact hb
theorem TM.moved2 {b0 : Nat} {o : World} {T M A B n : Nat} {w wb w' : World} {s s' : St} {D : DataW Unit} (hb : b0 ≤ o.heap.size) (hm : w.ownsMap Tryz.prog 9 (plainElem Tryz.prog 2) M n D) (hM : b0 ≤ M) (hl0 : 0 < s.now.length) (hT : TAt w T A B s) (hl : 0 < s'.now.length) (hP : ∀ j, Ta.own T A B s j → b0 ≤ j ∧ j ≠ M) (hF : Fr (fun j => b0 ≤ j) o w) (hw : Below w.heap.size w wb) (h : Moved T A B s wb s' w') : TM b0 o T M w' s' D n ∧ Stays w wb w' := by
  refine ⟨TM.moved hb (map_same hm (hw.block M hm.lt)) hM hl hP (hF.trans (Fr.of_below hw)) h, fun x h1 h2 => ?_⟩
  obtain ⟨H1, H2, a, b, c⟩ := h
  exact b.block x h2 (fun e => by have := hT.lts hl0 e; omega)
theorem TM.put2 {b0 : Nat} {o : World} {T M n : Nat} {w wb : World} {s : St} {D : DataW Unit} (h : TM b0 o T M w s D n) (hw : Below w.heap.size w wb) (hO : OkS 0 s) (hl : lenS s ≤ 511) (k : ByteArray) (hk1 : k.size ≤ 1000) (v : Int) :
    Calls Tryz.prog 75 #[.pointer (some ⟨T, 0, none⟩), .string k, .int .i64 v] wb fun en w' => en = .returned (.bool (fnd (step s) k (hk k)).isNone) ∧ TM b0 o T M w' (putS (step s) k v) D n ∧ Stays w wb w' := by
  obtain ⟨hb, hm, hM, hl0, A, B, hT, hP, hF⟩ := h
  have hp := (putS_ok (step_ok hO) (by rw [step_len hO]; exact hl) k hk1 v).1.p1.facts
  exact (put_calls wb T A B s (hT.below hw) hO hl k hk1 v).mono fun _ _ ⟨a, b⟩ => ⟨a, TM.moved2 hb hm hM hl0 hT (by omega) hP hF hw b⟩
theorem TM.drop2 {b0 : Nat} {o : World} {T M n : Nat} {w wb : World} {s : St} {D : DataW Unit} (h : TM b0 o T M w s D n) (hw : Below w.heap.size w wb) (hO : OkS 0 s) (hK : Kp s) (k : ByteArray) (hk1 : k.size ≤ 1000) :
    Calls Tryz.prog 83 #[.pointer (some ⟨T, 0, none⟩), .string k] wb fun en w' => en = .returned (.tuple #[.int .i64 ((look s k).getD 0), .bool (look s k).isSome]) ∧ TM b0 o T M w' (dropS (step s) k) D n ∧ Stays w wb w' := by
  obtain ⟨hb, hm, hM, hl0, A, B, hT, hP, hF⟩ := h
  have hp := (dropS_ok (step_ok hO) k).1.p1.facts
  refine (drop_calls wb T A B s (hT.below hw) hO k hk1).mono fun _ _ ⟨a, b⟩ => ⟨?_, TM.moved2 hb hm hM hl0 hT (by omega) hP hF hw b⟩
  rw [a, look_val, look_some, look_step hK hO]
theorem TM.get2 {b0 : Nat} {o : World} {T M n : Nat} {w wb : World} {s : St} {D : DataW Unit} (h : TM b0 o T M w s D n) (hw : Below w.heap.size w wb) (hO : OkS 0 s) (hK : Kp s) (k : ByteArray) (hk1 : k.size ≤ 1000) :
    Calls Tryz.prog 45 #[.pointer (some ⟨T, 0, none⟩), .string k] wb fun en w' => en = .returned (.tuple #[.int .i64 ((look s k).getD 0), .bool (look s k).isSome]) ∧ TM b0 o T M w' (step s) D n ∧ Stays w wb w' := by
  obtain ⟨hb, hm, hM, hl0, A, B, hT, hP, hF⟩ := h
  have hp := (step_ok hO).p1.facts
  refine (get_calls wb T A B s (hT.below hw) hO k hk1).mono fun _ _ ⟨a, b⟩ => ⟨?_, TM.moved2 hb hm hM hl0 hT (by omega) hP hF hw b⟩
  rw [a, look_val, look_some, look_step hK hO]
theorem TM.len2 {b0 : Nat} {o : World} {T M n : Nat} {w : World} {s : St} {D : DataW Unit} (h : TM b0 o T M w s D n) {c : Int} (hO : Ok c s) (hK : KI s D) :
    Calls Tryz.prog 11 #[.pointer (some ⟨T, 0, none⟩)] w fun e w' => e = .returned (.int .i64 (Maps.size D : Nat)) ∧ TM b0 o T M w' s D n := by
  refine (h.len hO).mono ?_
  rintro e w' ⟨rfl, m, rfl⟩
  exact ⟨by rw [← hK.sz], h.drew m⟩
theorem TM.keys {b0 : Nat} {o : World} {T M n : Nat} {w : World} {s : St} {D : DataW Unit} (h : TM b0 o T M w s D n) {c : Int} (hO : Ok c s) :
    Calls Tryz.prog 18 #[.pointer (some ⟨T, 0, none⟩)] w fun e w' => ∃ g k, e = .returned (.slice (some ⟨g, 0, none⟩) (keysS s).length k) ∧ InSt w' g (keysS s) ∧ TM b0 o T M w' s D n := by
  have h' := h
  obtain ⟨-, -, -, -, A, B, hT, -, -⟩ := h'
  refine (keys_calls w T A B s hT hO).mono ?_
  rintro e w' ⟨g, k, he, -, hI, hB⟩
  exact ⟨g, k, he, hI, h.bel hB⟩
theorem zeroI (w : World) : (zeroValue 2).run Tryz.prog w = .ok (.int .i64 0) w := by kernel_rfl
end Go.Proofs.YtmjlhmohglbecaaGreatDoor.Ta
