/- slices.Sort, Compact, Equal at rows of texts. No condition but bounds. -/
import Derived.Test.YtjpbpdjomfkkeaaGreatDoorMa3
import Derived.Test.YtjpbpdjomfkkeaaGreatDoorLays
import Derived.Sort.OwnSorted
import Derived.Shelf.Slices.In.SortNone
import Derived.Shelf.Slices.Empties2
namespace Go.Proofs.YtjpbpdjomfkkeaaGreatDoor.Ma
set_option linter.unusedVariables false
set_option linter.unusedSimpArgs false
open Go.ChangeShapes Go.WideShapes Go.ChangeAt Go.RowKit Go.Sort
theorem cellsS_enc (l : List BA) : cellsS l = (l.map tl).map encStr := by
  unfold cellsS
  rw [List.map_map]
  rfl
/-- slices.Sort upon a row of one's own. -/
theorem sort_calls {wb w : World} {v : Value} {l : List BA} (h : RowS wb w v l) (hl : l.length ≤ 1000000) :
    Calls Tryz.prog 25 #[v] w fun e w' => e = .returned (.tuple #[]) ∧ RowS wb w' v (srt l) := by
  rcases h.row.2 with ⟨rfl, hn⟩ | ⟨g, cap, cur, rfl, hbase, hb, h1, h2, h3, h4⟩
  · have e : l = [] := List.length_eq_zero_iff.1 hn
    subst e
    refine (Any.slices_Sort_string_none Tryz.lays190 none 0 w).mono ?_
    rintro e w' ⟨rfl, rfl⟩
    exact ⟨rfl, h⟩
  · have h5 : cur.toList.take (l.map tl).length = (l.map tl).map encStr := by
      rw [List.length_map, ← cellsS_enc, ← h4, Nat.mul_one]
    have hH := holds_of_block hb h5
    have hg : g < w.heap.size := (Array.getElem?_eq_some_iff.1 hb).1
    have hS := Any.slices_Sort_string Tryz.lays190 g 0 cap (l.map tl) w hH hg (by rw [List.length_map]; omega)
    rw [List.length_map, sort_srt] at hS
    refine hS.mono ?_
    rintro e w' ⟨rfl, n, os, rfl⟩
    refine ⟨rfl, ?_, h.bel.grown (grownBy_sorted _) h.bel.size (fun k hk => by injection hk with hk; omega)⟩
    have := ownsRow_sorted (n := n) (os := os) (ss := l.map tl) (ts := (srt l).map tl) (by simp [srt_len]) hbase hb (by rw [List.length_map]; exact h1) h2 h3
    rw [List.length_map] at this
    rw [cellsS_enc, srt_len]
    exact this
/-- slices.Compact upon a row of one's own. -/
theorem compact_calls {wb w : World} {v : Value} {l : List BA} (h : RowS wb w v l) (hl : l.length ≤ 1000000) :
    Calls Tryz.prog 29 #[v] w fun e w' => ∃ v', e = .returned v' ∧ RowS wb w' v' (cmp l) := by
  rcases h.row.2 with ⟨rfl, hn⟩ | ⟨g, cap, cur, rfl, hbase, hb, h1, h2, h3, h4⟩
  · have e : l = [] := List.length_eq_zero_iff.1 hn
    subst e
    refine (Any.slices_Compact_string_empty Tryz.lays194 none 0 w).mono ?_
    rintro e w' ⟨rfl, rfl⟩
    exact ⟨_, rfl, h⟩
  · have h5 : cur.toList.take (l.map tl).length = (l.map tl).map encStr := by
      rw [List.length_map, ← cellsS_enc, ← h4, Nat.mul_one]
    have hH := holds_of_block hb h5
    have hg : g < w.heap.size := (Array.getElem?_eq_some_iff.1 hb).1
    have hS := Any.slices_Compact_string Tryz.lays194 g 0 cap (l.map tl) w hH (by rw [List.length_map]; omega) (by rw [List.length_map]; exact h1)
    rw [List.length_map, compact_cmp, List.length_map] at hS
    refine hS.mono ?_
    rintro e w' ⟨rfl, q, rfl⟩
    have hle := cmp_len l
    have hgr : Go.Sort.grow (Go.Sort.putRow encStr (Go.Sort.ahead w q) g 0 ((cmp l).map tl ++ List.replicate (l.length - (cmp l).length) []).toArray) #[] = Go.Sort.putRow encStr (Go.Sort.ahead w q) g 0 ((cmp l).map tl ++ List.replicate (l.length - (cmp l).length) []).toArray := Go.Sort.grow_empty _
    refine ⟨_, rfl, ?_, ?_⟩
    · have := ownsRow_sorted (n := q) (os := #[]) (ss := l.map tl) (ts := (cmp l).map tl ++ List.replicate (l.length - (cmp l).length) []) (by simp; omega) hbase hb (by rw [List.length_map]; exact h1) h2 h3
      rw [hgr, List.length_map] at this
      refine ⟨by simp [cellsS_len], .inr ?_⟩
      rcases this.2 with ⟨e, -⟩ | ⟨g', cap', cur', e, k1, k2, k3, k4, k5, k6⟩
      · cases e
      · injection e with e1 e2 e3
        injection e1 with e1
        injection e1 with e1
        subst e1 e3
        refine ⟨g, cap, cur', rfl, k1, k2, by omega, k4, k5, ?_⟩
        have k7 := congrArg (List.take ((cmp l).length * 1)) k6
        rw [List.take_take, Nat.min_eq_left (by omega)] at k7
        rw [k7, List.map_append, cellsS_enc]
        exact List.take_left' (by simp)
    · rw [← hgr]
      exact h.bel.grown (grownBy_sorted _) h.bel.size (fun k hk => by injection hk with hk; omega)
/-- slices.Equal. -/
theorem equal_calls (w : World) (a1 a2 : Option Addr) (c1 c2 : Nat) (l1 l2 : List BA) (h1 : InS w a1 l1) (h2 : InS w a2 l2) (hl1 : l1.length ≤ 1000000) (hl2 : l2.length ≤ 1000000) (b : Bool) (hb : b = true ↔ l1 = l2) :
    Calls Tryz.prog 23 #[.slice a1 l1.length c1, .slice a2 l2.length c2] w fun e w' => e = .returned (.bool b) ∧ ∃ q, w' = w.drewN q := by
  by_cases hn : l1.length = l2.length
  · by_cases hp : 0 < l1.length
    · obtain ⟨b1, o1, rfl, -, k1⟩ := h1 hp
      obtain ⟨b2, o2, rfl, -, k2⟩ := h2 (by omega)
      have h := Any.slices_Equal_string Tryz.lays193 b1 o1 l1.length c1 b2 o2 l2.length c2 l1 l2 w (Nat.le_refl _) (Nat.le_refl _) (by omega) (by omega)
        (fun j hj => by rw [k1 j hj]; simp [hj]) (fun j hj => by rw [k2 j hj]; simp [hj])
      rw [List.take_length, List.take_length] at h
      have e : decide (l1 = l2) = b := by
        rw [Bool.eq_iff_iff, decide_eq_true_iff]; exact hb.symm
      rw [e] at h
      exact h
    · have e1 : l1 = [] := List.length_eq_zero_iff.1 (by omega)
      have e2 : l2 = [] := List.length_eq_zero_iff.1 (by omega)
      subst e1 e2
      obtain rfl : b = true := hb.2 rfl
      have h := Any.slices_Equal_string_empty Tryz.lays193 a1 a2 c1 0 c2 w (by omega)
      refine h.mono ?_
      rintro e w' ⟨he, hw⟩
      exact ⟨by simpa using he, 0, by first | exact hw | (rw [hw]; rfl)⟩
  · have e : b = false := by
      cases b with
      | false => rfl
      | true => exact absurd (congrArg List.length (hb.1 rfl)) hn
    subst e
    refine (Any.slices_Equal_string_lens Tryz.lays193 a1 a2 l1.length c1 l2.length c2 w hn).mono ?_
    rintro e w' ⟨rfl, rfl⟩
    exact ⟨rfl, 0, rfl⟩
end Go.Proofs.YtjpbpdjomfkkeaaGreatDoor.Ma
