/- Package recent: Touch, Drop. Conditions: an object as it lies; bounds. -/
import Derived.Test.YtkpcobaklbfpcaaCa4
namespace Go.Proofs.Ytkpcobaklbfpcaa.Ca
open Go.ChangeShapes Go.WideShapes Go.ChangeAt Go.RowKit Go.Maps Go.WideMaps
/-- The object's own two cells, and its map. -/
structure Head (w : World) (T M E n : Nat) (D : DataW Unit) : Prop where
  c0 : w.cell? ⟨T, 0, none⟩ = some (.map (some M))
  c1 : w.cell? ⟨T, 1, none⟩ = some (.pointer (some ⟨E, 0, none⟩))
  ft : ∀ j, w.frozen? ⟨T, j, none⟩ = false
  map : w.ownsMap Try.prog 9 ptrE M n D
theorem Head.cells {w w' : World} {T M E n n' : Nat} {D D' : DataW Unit} (h : Head w T M E n D) (hT : w'.heap[T]? = w.heap[T]?) (hM : w'.ownsMap Try.prog 9 ptrE M n' D') : Head w' T M E n' D' :=
  ⟨(World.cell?_of_block (a := ⟨T, 0, none⟩) hT).trans h.c0, (World.cell?_of_block (a := ⟨T, 1, none⟩) hT).trans h.c1, fun j => (World.frozen?_of_block (a := ⟨T, j, none⟩) hT).trans (h.ft j), hM⟩
theorem Head.keep {w w' : World} {T M E n : Nat} {D : DataW Unit} (h : Head w T M E n D) (hT : w'.heap[T]? = w.heap[T]?) (hM : w'.heap[M]? = w.heap[M]?) : Head w' T M E n D := h.cells hT (map_same h.map hM)
theorem Head.lt {w : World} {T M E n : Nat} {D : DataW Unit} (h : Head w T M E n D) : T < w.heap.size := World.block_lt_of_cell? w _ h.c0
theorem Head.rat {w : World} {T M E n : Nat} {D : DataW Unit} (h : Head w T M E n D) {L : Lk} (hk : KI L D) (hr : Ring w E L) (hn : (L.map (·.2)).Nodup) (ht : ∀ i, i ≤ L.length → nd E L i ≠ T) : RAt w T M E L D :=
  ⟨h.c0, h.c1, h.ft, by have := own_norm h.map; rw [hk.sz] at this; exact this, hk, hr, hn, ht⟩
theorem RAt.head {w : World} {T M E : Nat} {L : Lk} {D : DataW Unit} (h : RAt w T M E L D) : Head w T M E L.length D := ⟨h.c0, h.c1, h.ft, h.map⟩
/-- What a call leaves: the object with other links; what it hasn't, stands. -/
structure Mv (T M E : Nat) (L : Lk) (w : World) (M' E' : Nat) (L' : Lk) (D' : DataW Unit) (w' : World) : Prop where
  at_ : RAt w' T M' E' L' D'
  fr : Fr (own T M E L) w w'
  own : ∀ x, own T M' E' L' x → own T M E L x ∨ w.heap.size ≤ x
theorem nd_in_erase {E : Nat} {L : Lk} {j i : Nat} (hj : j < L.length) (hi : i ≤ (L.eraseIdx j).length) : ∃ m, m ≤ L.length ∧ m ≠ j + 1 ∧ nd E (L.eraseIdx j) i = nd E L m := by
  rw [List.length_eraseIdx_of_lt hj] at hi
  rw [nd_erase]
  by_cases h : i ≤ j
  · exact ⟨i, by omega, by omega, if_pos h⟩
  · exact ⟨i + 1, by omega, by omega, if_neg h⟩
theorem nd_in_app {E : Nat} {L : Lk} {p : Nat × ByteArray} {i : Nat} (hi : i ≤ (L ++ [p]).length) : nd E (L ++ [p]) i = p.1 ∨ ∃ m, m ≤ L.length ∧ nd E (L ++ [p]) i = nd E L m := by
  simp only [List.length_append, List.length_singleton] at hi
  by_cases h : i ≤ L.length
  · exact .inr ⟨i, h, nd_append h⟩
  · have : i = L.length + 1 := by omega
    subst this
    exact .inl nd_append_last
theorem nodup_erase {L : Lk} (h : (L.map (·.2)).Nodup) (k : ByteArray) : ((dropL k L).map (·.2)).Nodup := by
  rw [dropL_map]; exact dropK_nodup h
theorem nodup_touch {L : Lk} (h : (L.map (·.2)).Nodup) (k : ByteArray) (x : Nat) : ((dropL k L ++ [(x, k)]).map (·.2)).Nodup := by
  rw [List.map_append, dropL_map]; exact touchK_nodup h
/-- What leave leaves of an object. -/
theorem leave_head {w w1 : World} {T M E : Nat} {L : Lk} {D : DataW Unit} (h : RAt w T M E L D) {j : Nat} (hj : j < L.length) (hf : Fr (fun i => i = nd E L j ∨ i = nd E L (j + 2)) w w1) : Head w1 T M E L.length D ∧ Fr (own T M E L) w w1 := by
  have s2 : ∃ m, m ≤ L.length ∧ nd E L (j + 2) = nd E L m := by
    by_cases hl : j + 2 ≤ L.length
    · exact ⟨_, hl, rfl⟩
    · exact ⟨0, Nat.zero_le _, nd_end (by omega)⟩
  obtain ⟨m, hm, e⟩ := s2
  rw [e] at hf
  refine ⟨h.head.keep (hf.block T h.head.lt ?_) (hf.block M h.map.lt ?_), hf.mono ?_⟩
  · rintro (e | e)
    · exact h.tn j (by omega) e.symm
    · exact h.tn m hm e.symm
  · rintro (e | e)
    · exact h.mn (i := j) (by omega) e.symm
    · exact h.mn hm e.symm
  · rintro i (e | e)
    · exact .inr (.inr ⟨j, by omega, e⟩)
    · exact .inr (.inr ⟨m, hm, e⟩)
set_option maxHeartbeats 4000000 in
set_option maxRecDepth 100000 in
theorem drop_some {w : World} {T M E : Nat} {L : Lk} {D : DataW Unit} (h : RAt w T M E L D) (j : Nat) (hj : j < L.length) (hk : L[j].2.size ≤ maxLen) :
    Calls Try.prog 37 #[.pointer (some ⟨T, 0, none⟩), .string L[j].2] w fun e w' => e = .returned (.bool true) ∧ Mv T M E L w M E (dropL L[j].2 L) (D.del (klit L[j].2)) w' := by
  have c0 := h.c0
  have hrun := h.look_run L[j].2 hk
  rw [look_at h.kn hj] at hrun
  have HK := Lib.hid hk
  have HL := Lib.hid (leave_calls h.ring hj)
  have HH := Lib.hid h
  clear h hk
  generalize hx : L[j].1 = x at *
  generalize hkk : L[j].2 = k at *
  go_enter Try.func37, Try.ntmps37
  simp only [ptr, Option.isSome_some] at hrun
  go_wp2_with fail
  refine HL.out.mono ?_; rintro en w1 ⟨rfl, hr1, -, hf1, -⟩
  have HR1 := Lib.hid hr1
  obtain ⟨hh1, hfr1⟩ := leave_head HH.out hj hf1
  have HH1 := Lib.hid hh1
  have HF1 := Lib.hid hfr1
  have d0 := hh1.c0
  have hm1 := Lib.hid hh1.map
  clear hr1 hh1 hf1 hfr1 hrun c0 HL
  go_wp2_with (at_delete; refine wpList_delete_own _ rfl _ _ _ _ rfl 73 keyed Try.underlying72 ptrE M L.length D rfl hm1.out _ _ rfl (hkey HK.out) ?_)
  intro w2 hm2 hg2
  have hg := hg2.grown
  go_wp2_with fail
  go_ret
  refine ⟨rfl, ?_, ?_, ?_⟩
  · have hT : w2.heap[T]? = w1.heap[T]? := hg.block T HH1.out.lt (fun e => HH.out.mt (by injection e))
    have e2 := dropL_erase HH.out.kn hj
    rw [hkk] at e2
    refine (HH1.out.cells hT hm2).rat (HH.out.ki.drop HH.out.kn k) ?_ (nodup_erase HH.out.kn k) ?_
    · rw [e2]
      refine HR1.out.keep fun i hi => ?_
      obtain ⟨m, hm, -, e⟩ := nd_in_erase (E := E) hj hi
      rw [e]
      exact hg.block _ (by rw [← e]; exact HR1.out.lt hi) (fun e => HH.out.mn hm (by injection e))
    · rw [e2]
      intro i hi
      obtain ⟨m, hm, -, e⟩ := nd_in_erase (E := E) hj hi
      rw [e]; exact HH.out.tn m hm
  · exact HF1.out.trans ⟨hg.os, hg.tape, hg.output, hg.size, fun i hi hn => hg.block i hi (fun e => hn (.inr (.inl (by injection e))))⟩
  · rintro y (e | e | ⟨i, hi, e⟩)
    · exact .inl (.inl e)
    · exact .inl (.inr (.inl e))
    · have e2 := dropL_erase HH.out.kn hj
      rw [hkk] at e2
      rw [e2] at hi e
      obtain ⟨m, hm, -, e3⟩ := nd_in_erase (E := E) hj hi
      exact .inl (.inr (.inr ⟨m, hm, by rw [e, e3]⟩))
theorem Mv.refl {w : World} {T M E : Nat} {L : Lk} {D : DataW Unit} (h : RAt w T M E L D) : Mv T M E L w M E L D w := ⟨h, ⟨rfl, rfl, rfl, Nat.le_refl _, fun _ _ _ => rfl⟩, fun _ hx => .inl hx⟩
set_option maxHeartbeats 4000000 in
set_option maxRecDepth 100000 in
theorem drop_none {w : World} {T M E : Nat} {L : Lk} {D : DataW Unit} (h : RAt w T M E L D) (k : ByteArray) (hk : k.size ≤ maxLen) (hl : look L k = none) :
    Calls Try.prog 37 #[.pointer (some ⟨T, 0, none⟩), .string k] w fun e w' => e = .returned (.bool false) ∧ w = w' := by
  have c0 := h.c0
  have hrun := h.look_run k hk
  rw [hl] at hrun
  clear h hl
  go_enter Try.func37, Try.ntmps37
  simp only [ptr, Option.isSome_none] at hrun
  go_wp2_with fail
  go_ret
  exact ⟨rfl, rfl⟩
theorem drop_calls {w : World} {T M E : Nat} {L : Lk} {D : DataW Unit} (h : RAt w T M E L D) (k : ByteArray) (hk : k.size ≤ maxLen) :
    Calls Try.prog 37 #[.pointer (some ⟨T, 0, none⟩), .string k] w fun e w' => e = .returned (.bool (inK k (L.map (·.2)))) ∧ ∃ D', Mv T M E L w M E (dropL k L) D' w' := by
  rw [← look_isSome]
  cases hl : look L k with
  | none =>
    refine (drop_none h k hk hl).mono ?_
    rintro e w' ⟨rfl, rfl⟩
    exact ⟨rfl, D, by rw [dropL_none hl]; exact Mv.refl h⟩
  | some b =>
    obtain ⟨j, hj, e⟩ := look_idx hl
    have e1 : L[j].2 = k := by rw [e]
    subst e1
    refine (drop_some h j hj hk).mono ?_
    rintro e w' ⟨rfl, hm⟩
    exact ⟨rfl, _, hm⟩
end Go.Proofs.Ytkpcobaklbfpcaa.Ca
