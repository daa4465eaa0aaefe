/- Rows of strings that grow; the checking package's Drop, Touch, Oldest, Has of layer 10, and Same of layer 6. No condition but bounds. -/
import Derived.Test.YtmjlhmohglbecaaGreatDoorCaA
namespace Go.Proofs.YtmjlhmohglbecaaGreatDoor.Ca
open Go.ChangeShapes Go.WideShapes Go.ChangeAt Go.RowKit
theorem grow_of0 {w w' : World} (hb : Below w.heap.size w w') : w.grownBy w' none := ⟨hb.os, hb.tape, hb.output, hb.size, fun k hk _ => hb.block k hk⟩
def cellsT (l : List ByteArray) : List Value := l.map .string
theorem cellsT_len (l : List ByteArray) : (cellsT l).length = l.length * 1 := by simp [cellsT]
theorem iStr : (Tryz.prog.info? 9).map (fun i => (i.zero, i.size, i.bytes)) = some (some (.string ⟨#[]⟩), 1, 16) := by kernel_rfl
/-- The strings l in a row v of the call's own, made behind the world wb; of wb all stands. -/
structure RowT (wb w : World) (v : Value) (l : List ByteArray) : Prop where
  row : w.ownsRow wb.heap.size 9 1 v l.length (cellsT l)
  bel : Below wb.heap.size wb w
theorem RowT.below {wb w w' : World} {v : Value} {l : List ByteArray} (h : RowT wb w v l) (hb : Below w.heap.size w w') : RowT wb w' v l :=
  ⟨h.row.kept (grow_of0 hb) (by cases hv : v.ownBlock <;> simp), h.bel.trans (hb.mono h.bel.size)⟩
/-- .. with room for c strings, at a world that w has grown to. -/
theorem rowT_made2 {w0 w : World} (hb : Below w0.heap.size w0 w) (cur : Array Value) (c : Nat) (hc : c ≤ 1000000000) (hs : cur.size = c * 1) : RowT w0 (w.alloc (.cells cur 9)) (.slice (some ⟨w.heap.size, 0, none⟩) 0 c) [] :=
  ⟨World.ownsRow_made w cur c hb.size (by unfold maxLen; omega) hs, hb.alloc hb.size _⟩
theorem rowT_made (w : World) : RowT w (w.alloc (.cells #[] 9)) (.slice (some ⟨w.heap.size, 0, none⟩) 0 0) [] := ⟨World.ownsRow_made w #[] 0 (Nat.le_refl _) (Nat.zero_le _) rfl, bbox _⟩
theorem RowT.over {wa wb w : World} {v : Value} {l : List ByteArray} (h : RowT wb w v l) (hb : Below wa.heap.size wa wb) : RowT wa w v l := by
  refine ⟨⟨h.row.1, ?_⟩, hb.trans (h.bel.mono hb.size)⟩
  rcases h.row.2 with h | ⟨g, cap, cur, h1, h2, h3⟩
  · exact Or.inl h
  · exact Or.inr ⟨g, cap, cur, h1, Nat.le_trans hb.size h2, h3⟩
/-- The strings l lie at a. -/
def InT (w : World) (a : Option Addr) (l : List ByteArray) : Prop := ∀ i (hi : i < l.length), ∃ g, a = some ⟨g, 0, none⟩ ∧ w.cell? ⟨g, i, none⟩ = some (.string l[i])
theorem InT.below {w w' : World} {a : Option Addr} {l : List ByteArray} (h : InT w a l) (hb : Below w.heap.size w w') : InT w' a l := fun i hi => by
  obtain ⟨g, e, h1⟩ := h i hi
  exact ⟨g, e, (hb.cell (p := ⟨g, i, none⟩) (World.block_lt_of_cell? w _ h1)).trans h1⟩
/-- Where a row's strings lie: nowhere, or in a block of the call's own. -/
def Own (b : Nat) (a : Option Addr) (l : List ByteArray) : Prop := 0 < l.length → ∃ g, a = some ⟨g, 0, none⟩ ∧ b ≤ g
theorem RowT.slice {wb w : World} {v : Value} {l : List ByteArray} (h : RowT wb w v l) : ∃ a c, v = .slice a l.length c ∧ l.length ≤ c ∧ c ≤ 9223372036854775807 ∧ InT w a l ∧ Own wb.heap.size a l := by
  rcases h.row.2 with ⟨rfl, hn⟩ | ⟨g, cap, cur, rfl, hg, hh, h1, h2, h3, h4⟩
  · exact ⟨none, 0, by rw [hn], by omega, Nat.zero_le _, fun i hi => absurd hi (by omega), fun h => absurd h (by omega)⟩
  · refine ⟨some ⟨g, 0, none⟩, cap, rfl, h1, by unfold maxLen at h2; omega, fun i hi => ⟨g, rfl, ?_⟩, fun _ => ⟨g, rfl, hg⟩⟩
    have e1 : (cur.toList.take (l.length * 1))[i]? = cur.toList[i]? := List.getElem?_take_of_lt (by omega)
    rw [h4] at e1
    have e2 : (cellsT l)[i]? = some (.string l[i]) := by simp [cellsT, hi]
    rw [e2] at e1
    simp only [World.cell?, hh]
    simpa using e1.symm
/-- The strings r appended to a row's. -/
theorem str_push {wb w : World} {v : Value} {l : List ByteArray} {ops : Array Oper} {rest : List Oper} {o : Oper} {a : Act} {Q : Exit → Act → World → Prop} (hO : RowT wb w v l) (hgd : o.guard = none) (s x : Operand)
    (ho : o.op = .call { callee := .builtin .append, args := #[s, x], argTypes := #[53, 53] }) (hs : a.eval s = v) (r : List ByteArray) (c : Nat)
    {b n : Nat} (hx : a.eval x = .slice (some ⟨b, 0, none⟩) n c) (hn : n = r.length) (hI : InT w (some ⟨b, 0, none⟩) r) (hl : l.length ≤ 1000000000) (hr : r.length ≤ 1000000000)
    (h : ∀ v' w', RowT wb w' v' (l ++ r) → wpList Tryz.prog ops Q rest (a.put o.dst v') w') : wpList Tryz.prog ops Q (o :: rest) a w := by
  obtain ⟨i0, hi, hz0, hz1, hz2⟩ := info_parts iStr
  subst hn
  refine wpList_append_own _ hgd s x 53 ho wb.heap.size 9 i0 (.string ⟨#[]⟩) 1 16 Tryz.underlying53 hi hz0 hz1 hz2 rfl (by decide) v l.length (cellsT l) hs hO.row ⟨b, 0, none⟩ r.length c (cellsT r) hx (cellsT_len r) ?_ ?_ (by unfold maxLen; omega) (by omega) hO.bel.size ?_
  · intro j u hj
    rw [Addr.add_lit, Nat.zero_add]
    have hjr : j < r.length := by
      have h0 := (List.getElem?_eq_some_iff.1 hj).1
      rw [cellsT_len] at h0
      omega
    obtain ⟨g, e, hc⟩ := hI j hjr
    cases e
    rw [hc, ← hj]
    simp [cellsT, hjr]
  · intro u hu
    obtain ⟨y, -, rfl⟩ := List.mem_map.1 hu
    rfl
  · intro v' w' hr2 hg _
    refine h v' w' ⟨?_, hO.bel.grown hg hO.bel.size (fun k hk => (hO.row.lt k hk).1)⟩
    rw [List.length_append, show cellsT (l ++ r) = cellsT l ++ cellsT r from List.map_append]
    exact hr2
theorem inT_new (w : World) (s : ByteArray) (T : TypeId) : InT (w.alloc (.cells #[.string s] T)) (some ⟨w.heap.size, 0, none⟩) [s] := by
  intro i hi
  obtain rfl : i = 0 := by simpa using hi
  exact ⟨w.heap.size, rfl, by rw [World.cell?_alloc_new]; rfl⟩
theorem dropK_take {k : ByteArray} {l : List ByteArray} {j : Nat} (hj : j < l.length) : dropK k (l.take (j + 1)) = dropK k (l.take j) ++ (if l[j] = k then [] else [l[j]]) := by
  unfold dropK
  rw [← List.take_append_getElem hj, List.filter_append]
  congr 1
  by_cases h : l[j] = k <;> simp [h]
theorem dropK_le (k : ByteArray) (l : List ByteArray) : (dropK k l).length ≤ l.length := List.length_filter_le _ _
theorem dropK_lt (k : ByteArray) (l : List ByteArray) : decide ((dropK k l).length < l.length) = inK k l := by
  cases h : inK k l with
  | true => exact decide_eq_true (by have := (dropK_len k l).2 (inK_iff.1 h); omega)
  | false => exact decide_eq_false (fun hc => inK_false.1 h ((dropK_len k l).1 (by omega)))
theorem take_but {l : List ByteArray} {but : ByteArray} {j : Nat} (hj : j < l.length) (h : ∀ m (hm : m < l.length), m < j → l[m] = but) (e : l[j] = but) : ∀ m (hm : m < l.length), m < j + 1 → l[m] = but := fun m hm hlt => by
  by_cases hmj : m = j
  · subst hmj; exact e
  · exact h m hm (by omega)
theorem same_take {l r : List ByteArray} {j : Nat} (hl : j < l.length) (hr : j < r.length) (h : l.take j = r.take j) (he : l[j] = r[j]) : l.take (j + 1) = r.take (j + 1) := by
  rw [← List.take_append_getElem hl, ← List.take_append_getElem hr, h, he]
set_option maxHeartbeats 4000000 in
set_option maxRecDepth 100000 in
theorem same_calls (w : World) (a b : Option Addr) (c d : Nat) (l : List ByteArray) (hl : l.length ≤ 1000000) (hI : InT w a l) (hJ : InT w b l) :
    Calls Tryz.prog 17 #[.slice a l.length c, .slice b l.length d] w fun e w' => e = .returned (.bool true) ∧ Below w.heap.size w w' := by
  have HI := Lib.hid hI
  have HJ := Lib.hid hJ
  clear hI hJ
  go_enter Tryz.func17, Tryz.ntmps17
  go_wp2_with fail
  go_loopg [5, 13] (l.length + 1) (fun g _ vi wr => ∃ j : Nat, vi = .int .i64 j ∧ j ≤ l.length ∧ l.length - j ≤ g ∧ Hid (Below w.heap.size w wr))
  case atStart => exact ⟨0, rfl, by omega, by omega, Lib.hid (Below.refl _ _)⟩
  case round =>
    obtain ⟨j, rfl, hj, hg, HB⟩ := hrel
    by_cases hjl : j < l.length
    case pos =>
      have hjc : (j : Int) < (l.length : Int) := by omega
      obtain ⟨g1, rfl, c0⟩ := HI.out.below HB.out j hjl
      obtain ⟨g2, rfl, c1⟩ := HJ.out.below HB.out j hjl
      generalize l[j] = q at *
      go_wp2_with fail
      go_quiet (fail)
      go_wp2_with fail
      go_roundg (gk - 1)
      case measure => omega
      case rel => exact ⟨j + 1, by go_num, by omega, by omega, Lib.hid (HB.out.trans ⟨rfl, rfl, rfl, Nat.le_refl _, fun _ _ => rfl⟩)⟩
    case neg =>
      have hjc : ¬ ((j : Int) < (l.length : Int)) := by omega
      go_wp2_with fail
      go_ret
      exact ⟨rfl, HB.out⟩
end Go.Proofs.YtmjlhmohglbecaaGreatDoor.Ca
/- Package recent: All; the object beside other memory (RC), its calls in one form. Conditions: an object as it lies; bounds. -/
namespace Go.Proofs.YtmjlhmohglbecaaGreatDoor.Ca
open Go.ChangeShapes Go.WideShapes Go.ChangeAt Go.RowKit Go.Maps Go.WideMaps
end Go.Proofs.YtmjlhmohglbecaaGreatDoor.Ca
/- Package recent: the object beside a list of the caller's (RC): its calls in one form; the chapter's example. Conditions: bounds. -/
namespace Go.Proofs.YtmjlhmohglbecaaGreatDoor.Ca
open Go.ChangeShapes Go.WideShapes Go.ChangeAt Go.RowKit Go.Maps Go.WideMaps
/-- At T the object with the keys K, all of it new since o; at a the texts G, in none of its blocks. -/
def RC (o : World) (T : Nat) (w : World) (K : List ByteArray) (a : Option Addr) (G : List ByteArray) : Prop :=
  ∃ M E L D, RAt w T M E L D ∧ L.map (·.2) = K ∧ (∀ x, own T M E L x → o.heap.size ≤ x) ∧ Below o.heap.size o w ∧ InT w a G ∧ ∀ g, 0 < G.length → a = some ⟨g, 0, none⟩ → ¬ own T M E L g
/-- What was laid behind w by the caller stands. -/
def Stays (w wb w' : World) : Prop := ∀ x, w.heap.size ≤ x → x < wb.heap.size → w'.heap[x]? = wb.heap[x]?
theorem Stays.cell {w wb w' : World} (h : Stays w wb w') {x i : Nat} {v : Value} (hx : w.heap.size ≤ x) (hb : wb.cell? ⟨x, i, none⟩ = some v) : w'.cell? ⟨x, i, none⟩ = some v := by
  have := h x hx (World.block_lt_of_cell? wb _ hb)
  simp only [World.cell?, this] at hb ⊢
  exact hb
section
variable {o w w' wb : World} {T : Nat} {K : List ByteArray} {a : Option Addr} {G : List ByteArray}
theorem RC.bel (h : RC o T w K a G) (hb : Below w.heap.size w w') : RC o T w' K a G := by
  obtain ⟨M, E, L, D, h1, h2, h3, h4, h5, h6⟩ := h
  exact ⟨M, E, L, D, h1.below hb, h2, h3, bstep h4 hb, h5.below hb, h6⟩
theorem RC.below (h : RC o T w K a G) : Below o.heap.size o w := by
  obtain ⟨M, E, L, D, -, -, -, h4, -⟩ := h
  exact h4
theorem RC.list (h : RC o T w K a G) : InT w a G := by
  obtain ⟨M, E, L, D, -, -, -, -, h5, -⟩ := h
  exact h5
/-- Another list, a new one. -/
theorem RC.swap (h : RC o T w K a G) {a' : Option Addr} {G' : List ByteArray} (hb : Below w.heap.size w w') (hI : InT w' a' G') (hO : Own w.heap.size a' G') : RC o T w' K a' G' := by
  obtain ⟨M, E, L, D, h1, h2, h3, h4, -, -⟩ := h
  refine ⟨M, E, L, D, h1.below hb, h2, h3, bstep h4 hb, hI, fun g hg e ho => ?_⟩
  obtain ⟨g', e', hg'⟩ := hO hg
  rw [e] at e'
  cases e'
  have := h1.lt ho
  omega
theorem RC.nolist (h : RC o T w K a G) : RC o T w K none [] := by
  obtain ⟨M, E, L, D, h1, h2, h3, h4, -, -⟩ := h
  exact ⟨M, E, L, D, h1, h2, h3, h4, fun i hi => absurd hi (Nat.not_lt_zero _), fun g hg => absurd hg (Nat.lt_irrefl _)⟩
theorem RC.moved {M E : Nat} {L : Lk} {D : DataW Unit} {M' E' : Nat} {L' : Lk} {D' : DataW Unit} {K' : List ByteArray} (hw : Below w.heap.size w wb) (h1 : RAt w T M E L D) (h3 : ∀ x, own T M E L x → o.heap.size ≤ x) (h4 : Below o.heap.size o w) (h5 : InT w a G) (h6 : ∀ g, 0 < G.length → a = some ⟨g, 0, none⟩ → ¬ own T M E L g)
    (hm : Mv T M E L wb M' E' L' D' w') (hK : L'.map (·.2) = K') : RC o T w' K' a G ∧ Stays w wb w' := by
  have hob : Below o.heap.size o wb := bstep h4 hw
  have h5b := h5.below hw
  refine ⟨⟨M', E', L', D', hm.at_, hK, fun x hx => ?_, ?_, fun i hi => ?_, fun g hg e ho => ?_⟩, fun x hx hlt => hm.fr.block x hlt (fun ho => by have := h1.lt ho; omega)⟩
  · rcases hm.own x hx with h | h
    · exact h3 x h
    · have := hob.size; omega
  · exact hob.trans (hm.fr.below hob.size (fun i hi ho => by have := h3 i ho; omega))
  · obtain ⟨g, e, hc⟩ := h5b i hi
    exact ⟨g, e, hm.fr.cell (h6 g (by omega) e) hc⟩
  · rcases hm.own g ho with h | h
    · exact h6 g hg e h
    · obtain ⟨g', e', hc⟩ := h5b 0 hg
      rw [e] at e'
      cases e'
      have := World.block_lt_of_cell? wb _ hc
      simp at this
      omega
theorem RC.drop (h : RC o T w K a G) (hw : Below w.heap.size w wb) (k : ByteArray) (hk : k.size ≤ maxLen) :
    Calls Tryz.prog 84 #[.pointer (some ⟨T, 0, none⟩), .string k] wb fun e w' => e = .returned (.bool (inK k K)) ∧ RC o T w' (dropK k K) a G ∧ Stays w wb w' := by
  obtain ⟨M, E, L, D, h1, h2, h3, h4, h5, h6⟩ := h
  refine (drop_calls (h1.below hw) k hk).mono ?_
  rintro e w' ⟨rfl, D', hm⟩
  exact ⟨by rw [h2], RC.moved hw h1 h3 h4 h5 h6 hm (by rw [dropL_map, h2])⟩
theorem RC.touch (h : RC o T w K a G) (hw : Below w.heap.size w wb) (k : ByteArray) (hk : k.size ≤ maxLen) (hl : K.length ≤ 1000000) :
    Calls Tryz.prog 50 #[.pointer (some ⟨T, 0, none⟩), .string k] wb fun e w' => e = .returned (.bool (!inK k K)) ∧ RC o T w' (touchK k K) a G ∧ Stays w wb w' := by
  obtain ⟨M, E, L, D, h1, h2, h3, h4, h5, h6⟩ := h
  refine (touch_calls (h1.below hw) k hk (by rw [← h2, List.length_map] at hl; unfold maxLen; omega)).mono ?_
  rintro e w' ⟨rfl, x, D', hm⟩
  exact ⟨by rw [h2], RC.moved hw h1 h3 h4 h5 h6 hm (by rw [List.map_append, dropL_map, h2]; rfl)⟩
theorem RC.len (h : RC o T w K a G) :
    Calls Tryz.prog 167 #[.pointer (some ⟨T, 0, none⟩)] w fun e w' => e = .returned (.int .i64 K.length) ∧ w = w' := by
  obtain ⟨M, E, L, D, h1, h2, -⟩ := h
  subst h2
  rw [List.length_map]
  exact len_calls h1
theorem RC.has (h : RC o T w K a G) (k : ByteArray) (hk : k.size ≤ maxLen) (b : Bool) (hb : Hid (inK k K = b)) :
    Calls Tryz.prog 62 #[.pointer (some ⟨T, 0, none⟩), .string k] w fun e w' => e = .returned (.bool b) ∧ w = w' := by
  obtain ⟨M, E, L, D, h1, h2, -⟩ := h
  rw [← hb.out, ← h2, ← look_isSome]
  exact has_calls h1 k hk
theorem RC.oldest (h : RC o T w K a G) (but : ByteArray) (u : Option ByteArray) (hu : Hid (oldK but K = u)) :
    Calls Tryz.prog 79 #[.pointer (some ⟨T, 0, none⟩), .string but] w fun e w' => e = .returned (.tuple #[.string (u.getD ⟨#[]⟩), .bool u.isSome]) ∧ w = w' := by
  obtain ⟨M, E, L, D, h1, h2, -⟩ := h
  exact oldest_calls h1 but u (by rw [h2]; exact hu)
end
theorem touchK_le (k : ByteArray) (l : List ByteArray) : (touchK k l).length ≤ l.length + 1 := by
  unfold touchK
  rw [List.length_append]
  have := dropK_le k l
  show _ + 1 ≤ _
  omega
theorem rc_new (o w : World) (ho : Below o.heap.size o w) :
    Calls Tryz.prog 55 #[] w fun e w' => ∃ T, e = .returned (.pointer (some ⟨T, 0, none⟩)) ∧ RC o T w' [] none [] := by
  refine (new_calls w).mono ?_
  rintro e w' ⟨T, M, E, rfl, h1, h2, h3⟩
  exact ⟨T, rfl, M, E, [], .map [], h1, rfl, fun x hx => Nat.le_trans ho.size (h3 x hx), ho.trans (h2.mono ho.size), fun i hi => absurd hi (Nat.not_lt_zero _), fun g hg => absurd hg (Nat.lt_irrefl _)⟩
end Go.Proofs.YtmjlhmohglbecaaGreatDoor.Ca
