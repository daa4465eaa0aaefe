/- The checking package of layer 11: Due, Put. Conditions: dues as they lie; bounds. -/
import Derived.Test.YtabhnnffohnecaaEy1
namespace Go.Proofs.Ytabhnnffohnecaa.Ea
open Go.ChangeShapes Go.WideShapes Go.ChangeAt Go.RowKit
theorem rowT_made0 (w : World) : RowT w (w.alloc (.cells #[] 9)) (.slice (some ⟨w.heap.size, 0, none⟩) 0 0) [] := ⟨World.ownsRow_made w #[] 0 (Nat.le_refl _) (Nat.zero_le _) rfl, bbox _⟩
theorem dueD_take {now : Int} {most : Nat} {l : List Du} {j : Nat} (hj : j < l.length) : dueD now most (l.take (j + 1)) = dueD now most (l.take j) ++ (if l[j].1 ≤ now ∧ (dueD now most (l.take j)).length < most then [l[j]] else []) := by
  unfold dueD
  rw [← List.take_append_getElem hj, List.filter_append, List.take_append]
  have e : (([l[j]] : List Du).filter fun d => decide (d.1 ≤ now)) = if l[j].1 ≤ now then [l[j]] else [] := by
    by_cases h : l[j].1 ≤ now <;> simp [h]
  rw [e]
  congr 1
  rw [List.length_take]
  by_cases h : l[j].1 ≤ now
  · rw [if_pos h]
    by_cases h2 : ((l.take j).filter fun d => decide (d.1 ≤ now)).length < most
    · rw [if_pos ⟨h, by omega⟩]
      exact List.take_of_length_le (by simp; omega)
    · rw [if_neg (fun hh => by have := hh.2; omega)]
      have : most - ((l.take j).filter fun d => decide (d.1 ≤ now)).length = 0 := by omega
      rw [this]; rfl
  · rw [if_neg h, if_neg (fun hh => h hh.1)]; simp
set_option maxHeartbeats 4000000 in
set_option maxRecDepth 100000 in
theorem refDue_calls (w : World) (a : Option Addr) (c : Nat) (l : List Du) (hn : l.length ≤ 1000000) (hI : InD w a l) (now most : Int) :
    Calls Try.prog 20 #[.slice a l.length c, .int .i64 now, .int .i64 most] w fun e w' => ∃ v, e = .returned v ∧ RowT w w' v ((dueD now most.toNat l).map (·.2)) := by
  have HI := Lib.hid hI
  have HR0 := Lib.hid (rowT_made0 w)
  clear hI
  go_enter Try.func20, Try.ntmps20
  go_wp2_with fail
  generalize w.alloc (.cells #[] 9) = w0 at *
  generalize Value.slice (some ⟨w.heap.size, 0, none⟩) 0 0 = v0 at *
  go_loopg [7, 13] (l.length + 1) (fun g v7 vi wr => ∃ j : Nat, vi = .int .i64 j ∧ j ≤ l.length ∧ l.length - j ≤ g ∧ Hid (RowT w wr v7 ((dueD now most.toNat (l.take j)).map (·.2))))
  case atStart => exact ⟨0, rfl, by omega, by omega, by rw [show dueD now most.toNat (l.take 0) = [] by simp [dueD]]; exact HR0⟩
  case round =>
    obtain ⟨j, rfl, hj, hg, HR⟩ := hrel
    clear HR0
    by_cases hjl : j < l.length
    case pos =>
      have hjc : (j : Int) < (l.length : Int) := by omega
      obtain ⟨b, o, rfl, hbl, hat⟩ := HI.out.below (Nat.le_refl _) HR.out.bel (by omega)
      obtain ⟨e0, e1⟩ := hat j hjl
      have HE := Lib.hid (dueD_take (now := now) (most := most.toNat) hjl)
      have HLe : Hid ((dueD now most.toNat (l.take j)).length ≤ 1000000) := Lib.hid (by
        have h1 : (dueD now most.toNat (l.take j)).length ≤ (l.take j).length := Nat.le_trans (List.length_take_le' _ _) (List.length_filter_le _ _)
        have := List.length_take_le j l; omega)
      have HP : Hid (l[j] = (l[j].1, l[j].2)) := Lib.hid rfl
      clear hat
      rw [HP.out] at HE
      clear HP
      generalize l[j].1 = t at *
      generalize l[j].2 = q at *
      have HR1 := Lib.hid (HR.out.below (bbox (.cells #[.int .i64 t, .string q] 26)))
      have HIn : Hid (InT ((wr.alloc (.cells #[.int .i64 t, .string q] 26)).alloc (.cells #[.string q] 9)) (some ⟨wr.heap.size + 1, 0, none⟩) [q]) := Lib.hid (by
        have h := inT_new (wr.alloc (.cells #[.int .i64 t, .string q] 26)) q 9
        rw [show (wr.alloc (.cells #[.int .i64 t, .string q] 26)).heap.size = wr.heap.size + 1 by simp] at h
        exact h)
      generalize hBd : dueD now most.toNat (l.take (j + 1)) = Bd at *
      have HBd := Lib.hid hBd
      clear hBd
      obtain ⟨va, vc, hv7, -, -, -, -⟩ := HR.out.slice
      rw [List.length_map] at hv7
      generalize dueD now most.toNat (l.take j) = Ad at *
      subst hv7
      by_cases ht : t ≤ now
      case pos =>
        by_cases hm : Ad.length < most.toNat
        case pos =>
          have hmI : (Ad.length : Int) < most := by omega
          have HZ : Hid (Ad.map (·.2) ++ [q] = Bd.map (·.2)) := Lib.hid (by rw [HE.out, if_pos ⟨ht, hm⟩, List.map_append]; rfl)
          have HR2 := Lib.hid (HR1.out.below (bbox (.cells #[.string q] 9)))
          have HLm : Hid ((Ad.map (·.2)).length ≤ 1000000) := Lib.hid (by rw [List.length_map]; exact HLe.out)
          generalize hB : Bd.map (·.2) = B at *
          have HBe := Lib.hid hB
          generalize hA : Ad.map (·.2) = A at *
          have HAl : Hid (Ad.length = A.length) := Lib.hid (by rw [← hA, List.length_map])
          clear hB hA HE
          go_wp2_with (at_builtin; refine str_push HR2.out rfl _ _ rfl rfl [q] _ rfl rfl HIn.out ?hl ?hr ?_)
          case hl => exact Nat.le_trans HLm.out (Nat.le_of_ble_eq_true rfl)
          case hr => simp
          intro v5 w5 hR5
          have HR5 := Lib.hid hR5
          rw [HZ.out] at HR5
          clear hR5 e0 e1
          go_wp2_with fail
          go_roundg (gk - 1)
          case measure => omega
          case rel => exact ⟨j + 1, by go_num, by omega, by omega, by rw [HBd.out, HBe.out]; exact HR5⟩
        case neg =>
          have hmI : ¬ (Ad.length : Int) < most := by omega
          have HZ : Hid (Ad = Bd) := Lib.hid (by rw [HE.out, if_neg (fun hh => hm hh.2), List.append_nil])
          clear HE
          go_wp2_with fail
          go_roundg (gk - 1)
          case measure => omega
          case rel => exact ⟨j + 1, by go_num, by omega, by omega, by rw [HBd.out, ← HZ.out]; exact HR1⟩
      case neg =>
        have HZ : Hid (Ad = Bd) := Lib.hid (by rw [HE.out, if_neg (fun hh => ht hh.1), List.append_nil])
        clear HE
        go_wp2_with fail
        go_roundg (gk - 1)
        case measure => omega
        case rel => exact ⟨j + 1, by go_num, by omega, by omega, by rw [HBd.out, ← HZ.out]; exact HR1⟩
    case neg =>
      have hjc : ¬ ((j : Int) < (l.length : Int)) := by omega
      obtain rfl : j = l.length := by omega
      rw [List.take_length] at HR
      go_wp2_with fail
      go_ret
      exact ⟨_, rfl, HR.out⟩
theorem insD_at {d : Du} : ∀ {L : List Du} {j : Nat} (hj : j < L.length), (∀ m (hm : m < L.length), m < j → ltE d L[m] = false) → ltE d L[j] = true → insD d L = L.take j ++ d :: L.drop j
  | [], j, hj, _, _ => absurd hj (Nat.not_lt_zero _)
  | x :: r, 0, _, _, h => by
    show (if ltE d x = true then d :: x :: r else x :: insD d r) = _
    rw [if_pos (show ltE d x = true from h)]; rfl
  | x :: r, j + 1, hj, h1, h2 => by
    have h0 : ltE d x = false := h1 0 (by simp) (by omega)
    show (if ltE d x = true then d :: x :: r else x :: insD d r) = _
    rw [if_neg (by rw [h0]; decide)]
    exact congrArg (x :: ·) (insD_at (by simpa using hj) (fun m hm hlt => h1 (m + 1) (by simpa using hm) (by omega)) h2)
theorem insD_end {d : Du} : ∀ {L : List Du}, (∀ m (hm : m < L.length), ltE d L[m] = false) → insD d L = L ++ [d]
  | [], _ => rfl
  | x :: r, h1 => by
    have h0 : ltE d x = false := h1 0 (by simp)
    show (if ltE d x = true then d :: x :: r else x :: insD d r) = _
    rw [if_neg (by rw [h0]; decide)]
    exact congrArg (x :: ·) (insD_end fun m hm => h1 (m + 1) (by simpa using hm))
/-- What the loop keeps: placed or not yet. -/
def Pls (d : Du) (L : List Du) (j : Nat) (p : Bool) (out : List Du) : Prop := if p = true then out ++ L.drop j = insD d L else out = L.take j ∧ ∀ m (hm : m < L.length), m < j → ltE d L[m] = false
section
variable {d : Du} {L out : List Du} {j : Nat}
theorem Pls.go (h : Pls d L j true out) (hj : j < L.length) : Pls d L (j + 1) true (out ++ [L[j]]) := by
  unfold Pls at h ⊢
  rw [if_pos rfl] at h ⊢
  rw [← h, List.append_assoc]
  congr 1
  exact List.getElem_cons_drop hj
theorem Pls.skip (h : Pls d L j false out) (hj : j < L.length) (hl : ltE d L[j] = false) : Pls d L (j + 1) false (out ++ [L[j]]) := by
  unfold Pls at h ⊢
  rw [if_neg (by decide)] at h ⊢
  obtain ⟨h1, h2⟩ := h
  refine ⟨by rw [h1, List.take_append_getElem hj], fun m hm hlt => ?_⟩
  by_cases e : m = j
  · subst e; exact hl
  · exact h2 m hm (by omega)
theorem Pls.hit (h : Pls d L j false out) (hj : j < L.length) (hl : ltE d L[j] = true) : Pls d L (j + 1) true (out ++ [d] ++ [L[j]]) := by
  unfold Pls at h ⊢
  rw [if_neg (by decide)] at h
  rw [if_pos rfl]
  obtain ⟨h1, h2⟩ := h
  rw [insD_at hj h2 hl, h1, List.append_assoc, List.append_assoc]
  congr 1
  rw [List.singleton_append, List.singleton_append, List.getElem_cons_drop]
theorem Pls.done (h : Pls d L L.length true out) : out = insD d L := by
  unfold Pls at h
  rw [if_pos rfl, List.drop_length, List.append_nil] at h
  exact h
theorem Pls.last (h : Pls d L L.length false out) : out ++ [d] = insD d L := by
  unfold Pls at h
  rw [if_neg (by decide)] at h
  obtain ⟨h1, h2⟩ := h
  rw [insD_end fun m hm => h2 m hm hm, h1, List.take_length]
theorem Pls.len {p : Bool} (h : Pls d L j p out) (hj : j ≤ L.length) : out.length ≤ L.length + 1 := by
  unfold Pls at h
  split at h
  · have := congrArg List.length h
    rw [List.length_append, len_insD] at this
    omega
  · rw [h.1, List.length_take]; omega
end
/-- What lay in a box stands behind an append to another row. -/
theorem box_after {wb wr w5 : World} {v : Value} {l : List Du} {arr : Array Value} {T1 : TypeId} {O : Obj} (h : RowD wb wr v l) (hg : ((wr.alloc (.cells arr T1)).alloc O).grownBy w5 v.ownBlock) (i : Nat) : w5.cell? ⟨wr.heap.size, i, none⟩ = arr[i]? := by
  have hb : w5.heap[wr.heap.size]? = ((wr.alloc (.cells arr T1)).alloc O).heap[wr.heap.size]? := hg.block _ (by simp; omega) (fun e => by
    have := row_lt h.row e.symm
    omega)
  have h1 := World.cell?_of_block (a := ⟨wr.heap.size, i, none⟩) hb
  rw [h1, (bbox (w := wr.alloc (.cells arr T1)) O).cell (p := ⟨wr.heap.size, i, none⟩) (by show wr.heap.size < _; simp)]
  exact World.cell?_alloc_new wr arr T1 i
end Go.Proofs.Ytabhnnffohnecaa.Ea
