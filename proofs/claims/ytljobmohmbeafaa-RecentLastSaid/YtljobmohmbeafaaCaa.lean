/- Package recent: the object beside a list of the caller's (RC): its calls in one form; the chapter's example. Conditions: bounds. -/
import Derived.Test.YtljobmohmbeafaaCa9
namespace Go.Proofs.Ytljobmohmbeafaa.Ca
open Go.ChangeShapes Go.WideShapes Go.ChangeAt Go.RowKit Go.Maps Go.WideMaps
/-- At T the object with the keys K, all of it new since o; at a the texts G, in none of its blocks. -/
def RC (o : World) (T : Nat) (w : World) (K : List ByteArray) (a : Option Addr) (G : List ByteArray) : Prop :=
  ∃ M E L D, RAt w T M E L D ∧ L.map (·.2) = K ∧ (∀ x, own T M E L x → o.heap.size ≤ x) ∧ Below o.heap.size o w ∧ InT w a G ∧ ∀ g, 0 < G.length → a = some ⟨g, 0, none⟩ → ¬ own T M E L g
/-- What was laid behind w by the caller stands. -/
def Stays (w wb w' : World) : Prop := ∀ x, w.heap.size ≤ x → x < wb.heap.size → w'.heap[x]? = wb.heap[x]?
theorem Stays.cell {w wb w' : World} (h : Stays w wb w') {x i : Nat} {v : Value} (hx : w.heap.size ≤ x) (hb : wb.cell? ⟨x, i, none⟩ = some v) : w'.cell? ⟨x, i, none⟩ = some v := by
  have := h x hx (World.block_lt_of_cell? wb _ hb)
  simp only [World.cell?, this] at hb ⊢
  exact hb
section
variable {o w w' wb : World} {T : Nat} {K : List ByteArray} {a : Option Addr} {G : List ByteArray}
theorem RC.bel (h : RC o T w K a G) (hb : Below w.heap.size w w') : RC o T w' K a G := by
  obtain ⟨M, E, L, D, h1, h2, h3, h4, h5, h6⟩ := h
  exact ⟨M, E, L, D, h1.below hb, h2, h3, bstep h4 hb, h5.below hb, h6⟩
theorem RC.below (h : RC o T w K a G) : Below o.heap.size o w := by
  obtain ⟨M, E, L, D, -, -, -, h4, -⟩ := h
  exact h4
theorem RC.list (h : RC o T w K a G) : InT w a G := by
  obtain ⟨M, E, L, D, -, -, -, -, h5, -⟩ := h
  exact h5
/-- Another list, a new one. -/
theorem RC.swap (h : RC o T w K a G) {a' : Option Addr} {G' : List ByteArray} (hb : Below w.heap.size w w') (hI : InT w' a' G') (hO : Own w.heap.size a' G') : RC o T w' K a' G' := by
  obtain ⟨M, E, L, D, h1, h2, h3, h4, -, -⟩ := h
  refine ⟨M, E, L, D, h1.below hb, h2, h3, bstep h4 hb, hI, fun g hg e ho => ?_⟩
  obtain ⟨g', e', hg'⟩ := hO hg
  rw [e] at e'
  cases e'
  have := h1.lt ho
  omega
theorem RC.nolist (h : RC o T w K a G) : RC o T w K none [] := by
  obtain ⟨M, E, L, D, h1, h2, h3, h4, -, -⟩ := h
  exact ⟨M, E, L, D, h1, h2, h3, h4, fun i hi => absurd hi (Nat.not_lt_zero _), fun g hg => absurd hg (Nat.lt_irrefl _)⟩
theorem RC.moved {M E : Nat} {L : Lk} {D : DataW Unit} {M' E' : Nat} {L' : Lk} {D' : DataW Unit} {K' : List ByteArray} (hw : Below w.heap.size w wb) (h1 : RAt w T M E L D) (h3 : ∀ x, own T M E L x → o.heap.size ≤ x) (h4 : Below o.heap.size o w) (h5 : InT w a G) (h6 : ∀ g, 0 < G.length → a = some ⟨g, 0, none⟩ → ¬ own T M E L g)
    (hm : Mv T M E L wb M' E' L' D' w') (hK : L'.map (·.2) = K') : RC o T w' K' a G ∧ Stays w wb w' := by
  have hob : Below o.heap.size o wb := bstep h4 hw
  have h5b := h5.below hw
  refine ⟨⟨M', E', L', D', hm.at_, hK, fun x hx => ?_, ?_, fun i hi => ?_, fun g hg e ho => ?_⟩, fun x hx hlt => hm.fr.block x hlt (fun ho => by have := h1.lt ho; omega)⟩
  · rcases hm.own x hx with h | h
    · exact h3 x h
    · have := hob.size; omega
  · exact hob.trans (hm.fr.below hob.size (fun i hi ho => by have := h3 i ho; omega))
  · obtain ⟨g, e, hc⟩ := h5b i hi
    exact ⟨g, e, hm.fr.cell (h6 g (by omega) e) hc⟩
  · rcases hm.own g ho with h | h
    · exact h6 g hg e h
    · obtain ⟨g', e', hc⟩ := h5b 0 hg
      rw [e] at e'
      cases e'
      have := World.block_lt_of_cell? wb _ hc
      simp at this
      omega
theorem RC.drop (h : RC o T w K a G) (hw : Below w.heap.size w wb) (k : ByteArray) (hk : k.size ≤ maxLen) :
    Calls Try.prog 11 #[.pointer (some ⟨T, 0, none⟩), .string k] wb fun e w' => e = .returned (.bool (inK k K)) ∧ RC o T w' (dropK k K) a G ∧ Stays w wb w' := by
  obtain ⟨M, E, L, D, h1, h2, h3, h4, h5, h6⟩ := h
  refine (drop_calls (h1.below hw) k hk).mono ?_
  rintro e w' ⟨rfl, D', hm⟩
  exact ⟨by rw [h2], RC.moved hw h1 h3 h4 h5 h6 hm (by rw [dropL_map, h2])⟩
theorem RC.touch (h : RC o T w K a G) (hw : Below w.heap.size w wb) (k : ByteArray) (hk : k.size ≤ maxLen) (hl : K.length ≤ 1000000) :
    Calls Try.prog 8 #[.pointer (some ⟨T, 0, none⟩), .string k] wb fun e w' => e = .returned (.bool (!inK k K)) ∧ RC o T w' (touchK k K) a G ∧ Stays w wb w' := by
  obtain ⟨M, E, L, D, h1, h2, h3, h4, h5, h6⟩ := h
  refine (touch_calls (h1.below hw) k hk (by rw [← h2, List.length_map] at hl; unfold maxLen; omega)).mono ?_
  rintro e w' ⟨rfl, x, D', hm⟩
  exact ⟨by rw [h2], RC.moved hw h1 h3 h4 h5 h6 hm (by rw [List.map_append, dropL_map, h2]; rfl)⟩
theorem RC.clear (h : RC o T w K a G) (hw : Below w.heap.size w wb) :
    Calls Try.prog 10 #[.pointer (some ⟨T, 0, none⟩)] wb fun e w' => e = .returned (.tuple #[]) ∧ RC o T w' [] a G ∧ Stays w wb w' := by
  obtain ⟨M, E, L, D, h1, h2, h3, h4, h5, h6⟩ := h
  refine (clear_calls (h1.below hw)).mono ?_
  rintro e w' ⟨rfl, M', E', hm⟩
  exact ⟨rfl, RC.moved hw h1 h3 h4 h5 h6 hm rfl⟩
theorem RC.len (h : RC o T w K a G) :
    Calls Try.prog 15 #[.pointer (some ⟨T, 0, none⟩)] w fun e w' => e = .returned (.int .i64 K.length) ∧ w = w' := by
  obtain ⟨M, E, L, D, h1, h2, -⟩ := h
  subst h2
  rw [List.length_map]
  exact len_calls h1
theorem RC.has (h : RC o T w K a G) (k : ByteArray) (hk : k.size ≤ maxLen) (b : Bool) (hb : Hid (inK k K = b)) :
    Calls Try.prog 16 #[.pointer (some ⟨T, 0, none⟩), .string k] w fun e w' => e = .returned (.bool b) ∧ w = w' := by
  obtain ⟨M, E, L, D, h1, h2, -⟩ := h
  rw [← hb.out, ← h2, ← look_isSome]
  exact has_calls h1 k hk
theorem RC.oldest (h : RC o T w K a G) (but : ByteArray) (u : Option ByteArray) (hu : Hid (oldK but K = u)) :
    Calls Try.prog 13 #[.pointer (some ⟨T, 0, none⟩), .string but] w fun e w' => e = .returned (.tuple #[.string (u.getD ⟨#[]⟩), .bool u.isSome]) ∧ w = w' := by
  obtain ⟨M, E, L, D, h1, h2, -⟩ := h
  exact oldest_calls h1 but u (by rw [h2]; exact hu)
theorem RC.all (h : RC o T w K a G) (hl : K.length ≤ 1000000) :
    Calls Try.prog 19 #[.pointer (some ⟨T, 0, none⟩)] w fun e w' => ∃ v, e = .returned v ∧ RowT w w' v K := by
  obtain ⟨M, E, L, D, h1, h2, -⟩ := h
  subst h2
  exact all_calls h1 (by rw [List.length_map] at hl; exact hl)
end
theorem touchK_le (k : ByteArray) (l : List ByteArray) : (touchK k l).length ≤ l.length + 1 := by
  unfold touchK
  rw [List.length_append]
  have := dropK_le k l
  show _ + 1 ≤ _
  omega
theorem rc_new (o w : World) (ho : Below o.heap.size o w) :
    Calls Try.prog 7 #[] w fun e w' => ∃ T, e = .returned (.pointer (some ⟨T, 0, none⟩)) ∧ RC o T w' [] none [] := by
  refine (new_calls w).mono ?_
  rintro e w' ⟨T, M, E, rfl, h1, h2, h3⟩
  exact ⟨T, rfl, M, E, [], .map [], h1, rfl, fun x hx => Nat.le_trans ho.size (h3 x hx), ho.trans (h2.mono ho.size), fun i hi => absurd hi (Nat.not_lt_zero _), fun g hg => absurd hg (Nat.lt_irrefl _)⟩
set_option maxHeartbeats 4000000 in
set_option maxRecDepth 100000 in
theorem recentAlive (w : World) : Calls Try.prog 6 #[] w fun e w' => e = .returned (.bool true) ∧ Below w.heap.size w w' := by
  have H0 := Lib.hid (rc_new w w (Below.refl _ _))
  have hm : ∀ n, n ≤ 1000 → n ≤ maxLen := fun n hn => by unfold maxLen; omega
  have HM := Lib.hid hm
  clear hm
  go_enter Try.func6, Try.ntmps6
  go_wp2_with fail
  refine H0.out.mono ?_; rintro en w1 ⟨T, rfl, h1⟩
  have H1 := Lib.hid (h1.touch (Below.refl _ _) ⟨#[97]⟩ (HM.out _ (by decide)) (by decide))
  clear h1 H0
  go_wp2_with fail
  refine H1.out.mono ?_; rintro en w2 ⟨rfl, h2, -⟩
  have H2 := Lib.hid (h2.touch (Below.refl _ _) ⟨#[98]⟩ (HM.out _ (by decide)) (by decide))
  clear h2 H1
  rw [show inK ⟨#[97]⟩ [] = false by decide]
  go_wp2_with fail
  refine H2.out.mono ?_; rintro en w3 ⟨rfl, h3, -⟩
  have H3 := Lib.hid (h3.touch (Below.refl _ _) ⟨#[97]⟩ (HM.out _ (by decide)) (by decide))
  clear h3 H2
  rw [show inK ⟨#[98]⟩ (touchK ⟨#[97]⟩ []) = false by decide]
  go_wp2_with fail
  refine H3.out.mono ?_; rintro en w4 ⟨rfl, h4, -⟩
  have H4 := Lib.hid h4
  have HO := Lib.hid (h4.oldest ⟨#[120]⟩ (some ⟨#[98]⟩) (Lib.hid (by decide)))
  have HL := Lib.hid h4.len
  rw [show (touchK ⟨#[97]⟩ (touchK ⟨#[98]⟩ (touchK ⟨#[97]⟩ []))).length = 2 by decide] at HL
  have HH := Lib.hid (h4.has ⟨#[97]⟩ (HM.out _ (by decide)) true (Lib.hid (by decide)))
  have HB := Lib.hid h4.below
  clear h4 H3
  rw [show inK ⟨#[97]⟩ (touchK ⟨#[98]⟩ (touchK ⟨#[97]⟩ [])) = true by decide]
  go_wp2_with fail
  refine HO.out.mono ?_; rintro en w5 ⟨rfl, rfl⟩
  go_wp2_with fail
  refine HL.out.mono ?_; rintro en w5 ⟨rfl, rfl⟩
  go_wp2_with fail
  refine HH.out.mono ?_; rintro en w5 ⟨rfl, rfl⟩
  go_wp2_with fail
  go_ret
  exact ⟨rfl, HB.out⟩
end Go.Proofs.Ytljobmohmbeafaa.Ca
