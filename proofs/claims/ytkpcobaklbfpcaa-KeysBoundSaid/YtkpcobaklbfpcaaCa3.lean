/- Package recent: leave, enter. Conditions: a ring as it lies. -/
import Derived.Test.YtkpcobaklbfpcaaCa2
import Derived.BigRegion
namespace Go.Proofs.Ytkpcobaklbfpcaa.Ca
open Go.ChangeShapes Go.WideShapes Go.ChangeAt Go.RowKit
set_option maxHeartbeats 4000000 in
set_option maxRecDepth 100000 in
theorem leave_walk (w : World) (x p s : Nat) (u v : Value) (c1 : w.cell? ⟨x, 1, none⟩ = some (.pointer (some ⟨p, 0, none⟩))) (c2 : w.cell? ⟨x, 2, none⟩ = some (.pointer (some ⟨s, 0, none⟩)))
    (cp : w.cell? ⟨p, 2, none⟩ = some u) (cs : w.cell? ⟨s, 1, none⟩ = some v) (fp : w.frozen? ⟨p, 2, none⟩ = false) (fs : w.frozen? ⟨s, 1, none⟩ = false) :
    Calls Try.prog 40 #[.pointer (some ⟨x, 0, none⟩)] w fun e w' => e = .returned (.tuple #[]) ∧ Set2 ⟨p, 2, none⟩ ⟨s, 1, none⟩ (.pointer (some ⟨s, 0, none⟩)) (.pointer (some ⟨p, 0, none⟩)) w w' := by
  have HS := Lib.hid (set2_of w (a := ⟨p, 2, none⟩) (b := ⟨s, 1, none⟩) (u := .pointer (some ⟨s, 0, none⟩)) (v := .pointer (some ⟨p, 0, none⟩)) (addr_ne (.inr (by decide))) cp cs)
  have HS' := Lib.hid (set2_of' w (a := ⟨p, 2, none⟩) (b := ⟨s, 1, none⟩) (u := .pointer (some ⟨s, 0, none⟩)) (v := .pointer (some ⟨p, 0, none⟩)) (addr_ne (.inr (by decide))) cp cs)
  go_enter Try.func40, Try.ntmps40
  go_wp2_with fail
  go_region
  all_goals (go_wp2_with fail; go_end0; first | exact ⟨rfl, HS.out.drew⟩ | exact ⟨rfl, HS'.out.drew⟩)
set_option maxHeartbeats 4000000 in
set_option maxRecDepth 100000 in
theorem enter_walk (w : World) (x E l : Nat) (u a b : Value) (hxE : x ≠ E) (hxl : x ≠ l) (cE : w.cell? ⟨E, 1, none⟩ = some (.pointer (some ⟨l, 0, none⟩))) (cl : w.cell? ⟨l, 2, none⟩ = some u) (c1 : w.cell? ⟨x, 1, none⟩ = some a) (c2 : w.cell? ⟨x, 2, none⟩ = some b)
    (f1 : w.frozen? ⟨x, 1, none⟩ = false) (f2 : w.frozen? ⟨x, 2, none⟩ = false) (fl : w.frozen? ⟨l, 2, none⟩ = false) (fE : w.frozen? ⟨E, 1, none⟩ = false) :
    Calls Try.prog 41 #[.pointer (some ⟨x, 0, none⟩), .pointer (some ⟨E, 0, none⟩)] w fun e w' => e = .returned (.tuple #[]) ∧ ∃ W, Set2 ⟨x, 1, none⟩ ⟨x, 2, none⟩ (.pointer (some ⟨l, 0, none⟩)) (.pointer (some ⟨E, 0, none⟩)) w W ∧ Set2 ⟨l, 2, none⟩ ⟨E, 1, none⟩ (.pointer (some ⟨x, 0, none⟩)) (.pointer (some ⟨x, 0, none⟩)) W w' := by
  have h1 := set2_of w (a := ⟨x, 1, none⟩) (b := ⟨x, 2, none⟩) (u := .pointer (some ⟨l, 0, none⟩)) (v := .pointer (some ⟨E, 0, none⟩)) (addr_ne (.inr (by decide))) c1 c2
  have H1 := Lib.hid h1
  clear h1
  go_enter Try.func41, Try.ntmps41
  go_wp2_with fail
  generalize (w.setCell ⟨x, 1, none⟩ (.pointer (some ⟨l, 0, none⟩))).setCell ⟨x, 2, none⟩ (.pointer (some ⟨E, 0, none⟩)) = W at *
  have d1 := H1.out.ca
  have d2 := H1.out.cb
  have dE := (H1.out.ot ⟨E, 1, none⟩ (addr_ne (.inl (Ne.symm hxE))) (addr_ne (.inl (Ne.symm hxE)))).trans cE
  have dl := (H1.out.ot ⟨l, 2, none⟩ (addr_ne (.inl (Ne.symm hxl))) (addr_ne (.inl (Ne.symm hxl)))).trans cl
  have gl := (H1.out.fz ⟨l, 2, none⟩).trans fl
  have gE := (H1.out.fz ⟨E, 1, none⟩).trans fE
  clear c1 c2 cE cl f1 f2 fl fE
  have HS := Lib.hid (set2_of W (a := ⟨l, 2, none⟩) (b := ⟨E, 1, none⟩) (u := .pointer (some ⟨x, 0, none⟩)) (v := .pointer (some ⟨x, 0, none⟩)) (addr_ne (.inr (by decide))) dl dE)
  have HS' := Lib.hid (set2_of' W (a := ⟨l, 2, none⟩) (b := ⟨E, 1, none⟩) (u := .pointer (some ⟨x, 0, none⟩)) (v := .pointer (some ⟨x, 0, none⟩)) (addr_ne (.inr (by decide))) dl dE)
  go_region
  all_goals (go_wp2_with fail; go_end0; first | exact ⟨rfl, W, H1.out, HS.out.drew⟩ | exact ⟨rfl, W, H1.out, HS'.out.drew⟩)
/-- leave, at a link of a ring. -/
theorem leave_calls {w : World} {E : Nat} {L : Lk} (h : Ring w E L) {j : Nat} (hj : j < L.length) :
    Calls Try.prog 40 #[.pointer (some ⟨L[j].1, 0, none⟩)] w fun e w' => e = .returned (.tuple #[]) ∧ Ring w' E (L.eraseIdx j) ∧ Lone w' L[j].1 L[j].2 ∧ Fr (fun i => i = nd E L j ∨ i = nd E L (j + 2)) w w' ∧ ∀ x, w'.frozen? x = w.frozen? x := by
  have e1 : nd E L (j + 1) = L[j].1 := nd_succ hj
  have hp : nd E L (j + 1) ≠ nd E L j := fun e => by have := h.ne _ _ (by omega) (by omega) e; omega
  have hs : nd E L (j + 1) ≠ nd E L (j + 2) := fun e => by have := h.ne1 (i := j) (j := j + 1) (by omega) (by omega) e; omega
  have c1 := h.dn j (by omega)
  have c2 := h.up (j + 1) (by omega)
  have fs : w.frozen? ⟨nd E L (j + 2), 1, none⟩ = false := by
    by_cases hl : j + 2 ≤ L.length
    · exact h.fz _ _ hl
    · rw [nd_end (by omega)]; exact h.fz 0 1 (Nat.zero_le _)
  have hw := leave_walk w (nd E L (j + 1)) (nd E L j) (nd E L (j + 2)) _ _ c1 c2 (h.up j (by omega)) (h.dn (j + 1) (by omega)) (h.fz j 2 (by omega)) fs
  rw [← e1]
  refine hw.mono ?_
  rintro e w' ⟨rfl, hS⟩
  have k0 := h.key j hj
  rw [← e1] at k0
  refine ⟨rfl, h.leave hj hS, ⟨?_, ⟨_, (hS.ot _ (addr_ne (.inl hp)) (addr_ne (.inl hs))).trans c1⟩, ⟨_, (hS.ot _ (addr_ne (.inl hp)) (addr_ne (.inl hs))).trans c2⟩, fun i => (hS.fz _).trans (h.fz _ _ (by omega))⟩, hS.fr, hS.fz⟩
  exact (hS.ot _ (addr_ne (.inl hp)) (addr_ne (.inl hs))).trans k0
/-- enter, of a link that stands by itself, ahead of the node of no key. -/
theorem enter_calls {w : World} {E : Nat} {L : Lk} (h : Ring w E L) {x : Nat} {k : ByteArray} (hx : Lone w x k) (hne : ∀ i, i ≤ L.length → nd E L i ≠ x) :
    Calls Try.prog 41 #[.pointer (some ⟨x, 0, none⟩), .pointer (some ⟨E, 0, none⟩)] w fun e w' => e = .returned (.tuple #[]) ∧ Ring w' E (L ++ [(x, k)]) ∧ Fr (fun i => i = x ∨ ∃ m, m ≤ L.length ∧ i = nd E L m) w w' ∧ ∀ x, w'.frozen? x = w.frozen? x := by
  obtain ⟨a, c1⟩ := hx.c1
  obtain ⟨b, c2⟩ := hx.c2
  have cE := h.dn L.length (Nat.le_refl _)
  rw [nd_end (Nat.lt_succ_self _)] at cE
  refine (enter_walk w x E (nd E L L.length) _ a b (Ne.symm (hne 0 (Nat.zero_le _))) (Ne.symm (hne _ (Nat.le_refl _))) cE (h.up _ (Nat.le_refl _)) c1 c2 (hx.fz 1) (hx.fz 2) (h.fz _ 2 (Nat.le_refl _)) (h.fz 0 1 (Nat.zero_le _))).mono ?_
  rintro e w' ⟨rfl, W, hW, hS⟩
  refine ⟨rfl, h.enter hx hne hW hS, (hW.fr.mono ?_).trans (hS.fr.mono ?_), fun a => (hS.fz a).trans (hW.fz a)⟩
  · rintro i (e | e) <;> exact .inl e
  · rintro i (e | e)
    · exact .inr ⟨_, Nat.le_refl _, e⟩
    · exact .inr ⟨0, Nat.zero_le _, e⟩
end Go.Proofs.Ytkpcobaklbfpcaa.Ca
