/- Package expiry: the heap's Pop, behind a pointer. Conditions: the heap as it lies; bounds. -/
import Derived.Test.YtabhnnffohnecaaEc3
namespace Go.Proofs.Ytabhnnffohnecaa.Ea
open Go.ChangeShapes Go.WideShapes Go.ChangeAt Go.RowKit
/-- A row cut behind its k-th. -/
theorem row_cut {w : World} {base : Nat} {e : TypeId} {size n cap : Nat} {a : Option Addr} {xs : List Value} (h : w.ownsRow base e size (.slice a n cap) n xs) {k : Nat} (hk : k ≤ n) : w.ownsRow base e size (.slice a k cap) k (xs.take (k * size)) := by
  have hle : k * size ≤ n * size := Nat.mul_le_mul_right _ hk
  rcases h.2 with ⟨h', h0⟩ | ⟨g, cap', cur, h', hb, hg, hnc, hcm, hcs, htake⟩
  · subst h0
    obtain rfl : k = 0 := by omega
    refine ⟨by simp, .inl ⟨?_, rfl⟩⟩
    exact h'
  · simp only [Value.slice.injEq, true_and] at h'
    obtain ⟨rfl, rfl⟩ := h'
    refine ⟨by have := h.1; rw [List.length_take]; omega, .inr ⟨g, cap, cur, rfl, hb, hg, Nat.le_trans hk hnc, hcm, hcs, ?_⟩⟩
    rw [← htake, List.take_take, Nat.min_eq_left hle]
set_option maxHeartbeats 4000000 in
set_option maxRecDepth 100000 in
theorem hpop_calls {w : World} {T : Nat} {v : Value} {l : List En} {e : En} (h : DAt w T v (l ++ [e])) :
    Calls Try.prog 50 #[.pointer (some ⟨T, 0, none⟩)] w fun en w' => en = .returned (.iface 61 (ptr e.b)) ∧ ∃ v', DAt w' T v' l ∧ v'.ownBlock = v.ownBlock ∧ Fr (fun y => y = T ∨ v.ownBlock = some y) w w' ∧ ∀ j, j ≠ 0 → w'.cell? ⟨T, j, none⟩ = w.cell? ⟨T, j, none⟩ := by
  have hlen : (l ++ [e]).length = l.length + 1 := by simp
  obtain ⟨a, c, rfl, hc1, hc2, hat⟩ := h.hp.slice
  obtain ⟨g, rfl, d0, fg⟩ := hat l.length (by omega)
  have e1 : (l ++ [e])[l.length]'(by omega) = e := by simp
  rw [e1] at d0
  rw [hlen] at hc1
  have hl : l.length + 1 ≤ 9223372036854775807 := by omega
  have c0 := h.c0
  have ft := h.ft 0
  rw [hlen] at c0
  have hgT : T ≠ g := fun e2 => h.tv (by rw [e2]; rfl)
  have t0 : (w.setCell ⟨g, l.length, none⟩ (.pointer none)).cell? ⟨T, 0, none⟩ = some (.slice (some ⟨g, 0, none⟩) (l.length + 1) c) := (World.cell?_setCell_other _ _ _ _ (addr_ne (.inl (Ne.symm hgT)))).trans c0
  have HR : Hid (RowP (w.setCell ⟨g, l.length, none⟩ (.pointer none)) (.slice (some ⟨g, 0, none⟩) l.length c) (l.map (·.b))) := Lib.hid (by
    have hr := h.hp.row
    unfold RowP at hr ⊢
    rw [List.length_map, hlen] at hr
    have r1 := row_cut (hr.stored l.length (.pointer none)).1 (Nat.le_succ l.length)
    rw [List.length_map]
    have e2 : ((((l ++ [e]).map (·.b)).map ptr).set l.length (.pointer none)).take (l.length * 1) = (l.map (·.b)).map ptr := by
      rw [Nat.mul_one, List.take_set_of_le (Nat.le_refl _), List.map_append, List.map_append]
      have : l.length = ((l.map (·.b)).map ptr).length := by simp
      rw [this]; exact List.take_left
    rw [e2] at r1
    exact r1)
  have HH := Lib.hid h
  have HS : Hid ((w.setCell ⟨g, l.length, none⟩ (.pointer none)).heap.size = w.heap.size) := Lib.hid (by simp)
  have HF : Hid (Fr (fun y => y = g) w (w.setCell ⟨g, l.length, none⟩ (.pointer none))) := Lib.hid (Fr.setCell (S := fun y => y = g) w ⟨g, l.length, none⟩ rfl _)
  clear h hat
  rw [hlen] at *
  have b1 : (((l.length + 1 : Nat) : Int) - 1) = (l.length : Int) := by omega
  have b2 : (l.length : Int) < ((l.length + 1 : Nat) : Int) := by omega
  have b3 : ¬ ((c : Int) < (l.length : Int)) := by omega
  have b4 : (l.length : Int) ≤ (c : Int) := by omega
  have b5 : l.length ≤ c := by omega
  unfold ptr at *
  go_enter Try.func50, Try.ntmps50
  go_wp2_with fail
  go_ret
  have hh := HH.out
  have hF2 : Fr (fun y => y = T) (w.setCell ⟨g, l.length, none⟩ (.pointer none)) ((w.setCell ⟨g, l.length, none⟩ (.pointer none)).setCell ⟨T, 0, none⟩ (.slice (some ⟨g, 0, none⟩) l.length c)) := Fr.setCell (S := fun y => y = T) _ ⟨T, 0, none⟩ rfl _
  refine ⟨rfl, .slice (some ⟨g, 0, none⟩) l.length c, ⟨⟨?_, fun i hi => ?_, ?_, fun x hx => ?_⟩, ?_, fun j => ?_, ?_, fun x hx => ?_⟩, rfl, ?_, fun j hj => ?_⟩
  · exact row_block HR.out fun g' hg' => hF2.block g' (row_lt HR.out hg') (fun e2 => by
      have e3 : g = g' := Option.some.inj hg'
      exact hgT (by rw [e3, e2]))
  · have hm : l[i] ∈ l ++ [e] := List.mem_append_left _ (List.getElem_mem hi)
    have e1 : (l ++ [e])[i]'(by simp; omega) = l[i] := List.getElem_append_left hi
    have h1 := hh.hp.nd i (by simp; omega)
    rw [e1] at h1
    have hbl := hh.hp.blk hm
    refine h1.keep ((hF2.block _ (by rw [HS.out]; exact hbl) (hh.tn _ hm)).trans (HF.out.block _ hbl fun e2 => hh.hp.vn _ hm (by rw [e2]; rfl)))
  · have := hh.hp.ne
    rw [List.map_append] at this
    exact (List.nodup_append.1 this).1
  · exact hh.hp.vn x (List.mem_append_left _ hx)
  · exact World.cell?_setCell_same _ _ _ t0
  · rw [World.frozen?_setCell, World.frozen?_setCell]; exact hh.ft j
  · exact hh.tv
  · exact hh.tn x (List.mem_append_left _ hx)
  · exact (HF.out.mono fun i hi => .inr (congrArg some hi.symm)).trans (hF2.mono fun i hi => .inl hi)
  · rw [World.cell?_setCell_other _ _ _ _ (addr_ne (.inr (Ne.symm hj))), World.cell?_setCell_other _ _ _ _ (addr_ne (.inl (Ne.symm hgT)))]
end Go.Proofs.Ytabhnnffohnecaa.Ea
