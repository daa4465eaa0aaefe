/- New, Len, Nodes, Get; a node's mark. Conditions: the tree as it lies; bounds. -/
import Derived.Test.YtjfcdkmnccafaaaPbe
namespace Go.Proofs.Ytjfcdkmnccafaaa.Pb
open Go.ChangeShapes Go.WideShapes Go.ChangeAt Go.RowKit
def tNew (r : Nat) : Tr := { B := [r], rt := r, tx := fun _ => [], nm := fun _ => none, ks := fun _ => [] }
theorem tNew_ok (r : Nat) : Ok (tNew r) := by
  refine ⟨by simp [tNew], List.mem_singleton.2 rfl, rfl, fun b hb c hc _ => ?_, fun b _ c hc => ?_, fun b _ => List.Pairwise.nil, fun b _ d _ _ hne => absurd rfl hne⟩
  · rw [List.mem_singleton.1 hb, List.mem_singleton.1 hc]
  · cases hc
theorem tNew_mn (r : Nat) : Mn (tNew r) none := fun _ hb hr _ => absurd (List.mem_singleton.1 hb) hr
theorem tNew_look (r : Nat) (K : T) : look (tNew r) K = none := by
  unfold look
  cases (tNew r).B.find? (fun b => decide ((tNew r).tx b = K)) <;> rfl
theorem tNew_obj (w : World) : TObj ((w.alloc (.cells #[.string ⟨#[]⟩, .bool false, .int .i64 0, .slice none 0 0] 49)).alloc (.cells #[.pointer (some ⟨w.heap.size, 0, none⟩), .int .i64 0, .int .i64 1] 51)) (w.heap.size + 1) (tNew w.heap.size) (fun _ => .slice none 0 0) 0 := by
  have s1 : (w.alloc (.cells #[.string ⟨#[]⟩, .bool false, .int .i64 0, .slice none 0 0] 49)).heap.size = w.heap.size + 1 := by simp
  have c1 := fun j => World.cell?_alloc_new w #[.string ⟨#[]⟩, .bool false, .int .i64 0, .slice none 0 0] 49 j
  have f1 : ∀ j, (w.alloc (.cells #[.string ⟨#[]⟩, .bool false, .int .i64 0, .slice none 0 0] 49)).frozen? ⟨w.heap.size, j, none⟩ = false := fun j => by simp
  generalize w.alloc (.cells #[.string ⟨#[]⟩, .bool false, .int .i64 0, .slice none 0 0] 49) = W1 at *
  have hn : NdAt W1 w.heap.size [] none (.slice none 0 0) := ⟨c1 0, c1 1, c1 2, c1 3, f1⟩
  have B2 := bbox (w := W1) (.cells #[.pointer (some ⟨w.heap.size, 0, none⟩), .int .i64 0, .int .i64 1] 51)
  have c2 := fun j => World.cell?_alloc_new W1 #[.pointer (some ⟨w.heap.size, 0, none⟩), .int .i64 0, .int .i64 1] 51 j
  have f2 : ∀ j, (W1.alloc (.cells #[.pointer (some ⟨w.heap.size, 0, none⟩), .int .i64 0, .int .i64 1] 51)).frozen? ⟨W1.heap.size, j, none⟩ = false := fun j => by simp
  rw [s1] at c2 f2
  refine ⟨⟨fun b hb => ?_, fun b hb => World.ownsRow_nil _ _ _ _, fun b _ c _ g hg _ => (by cases hg), fun b _ g hg => (by cases hg)⟩, tNew_ok _, c2 0, c2 1, c2 2, f2, fun hA => ?_, fun b _ e => (by cases e), fun b _ => Nat.zero_le _⟩
  · rw [List.mem_singleton.1 hb]
    exact hn.keep (B2.block _ (by omega))
  · have := List.mem_singleton.1 hA
    omega
set_option maxHeartbeats 4000000 in
set_option maxRecDepth 100000 in
theorem new_calls (w : World) :
    Calls Try.prog 6 #[] w fun e w' => ∃ A t vs, e = .returned (.pointer (some ⟨A, 0, none⟩)) ∧ TObj w' A t vs 0 ∧ Mn t none ∧ (∀ K, look t K = none) ∧ t.B.length = 1 ∧ Below w.heap.size w w' ∧ ∀ y, own A t vs y → w.heap.size ≤ y := by
  have HT := Lib.hid (tNew_obj w)
  go_enter Try.func6, Try.ntmps6
  go_wp2_with fail
  go_ret
  have hX : Mn (tNew w.heap.size) none ∧ (∀ K, look (tNew w.heap.size) K = none) ∧ (tNew w.heap.size).B.length = 1 := ⟨tNew_mn _, tNew_look _, rfl⟩
  refine ⟨w.heap.size + 1, _, _, rfl, HT.out, hX.1, hX.2.1, hX.2.2, bstep (bbox _) (bbox _), fun y hy => ?_⟩
  rcases hy with rfl | hy | ⟨b, _, hy⟩
  · omega
  · have := List.mem_singleton.1 hy; omega
  · cases hy
set_option maxHeartbeats 4000000 in
theorem len_calls {w : World} {A : Nat} {t : Tr} {vs : Nat → Value} {m : Nat} (h : TObj w A t vs m) :
    Calls Try.prog 11 #[.pointer (some ⟨A, 0, none⟩)] w fun e w' => e = .returned (.int .i64 m) ∧ w = w' := by
  have c1 := h.c1
  clear h
  go_enter Try.func11, Try.ntmps11
  go_wp2_with fail
  go_ret
  exact ⟨rfl, rfl⟩
set_option maxHeartbeats 4000000 in
theorem nodes_calls {w : World} {A : Nat} {t : Tr} {vs : Nat → Value} {m : Nat} (h : TObj w A t vs m) :
    Calls Try.prog 12 #[.pointer (some ⟨A, 0, none⟩)] w fun e w' => e = .returned (.int .i64 t.B.length) ∧ w = w' := by
  have c2 := h.c2
  clear h
  go_enter Try.func12, Try.ntmps12
  go_wp2_with fail
  go_ret
  exact ⟨rfl, rfl⟩
set_option maxHeartbeats 4000000 in
theorem mark_calls {w : World} {b : Nat} {tx : T} {o : Option Int} {v : Value} (h : NdAt w b tx o v) :
    Calls Try.prog 30 #[.pointer (some ⟨b, 0, none⟩)] w fun e w' => e = .returned (.agg #[.string (bs tx), .int .i64 (o.getD 0)]) ∧ Below w.heap.size w w' := by
  have hb := h.lt
  have c0 := h.c0
  have c2 := h.c2
  clear h
  generalize bs tx = P at *
  generalize o.getD 0 = n at *
  have B1 := Lib.hid (bbox (w := w) (.cells #[.string ⟨#[]⟩, .int .i64 0] 45))
  have d0 : (w.alloc (.cells #[.string ⟨#[]⟩, .int .i64 0] 45)).cell? ⟨b, 0, none⟩ = some (.string P) := (B1.out.cell (p := ⟨b, 0, none⟩) hb).trans c0
  have d2 : (w.alloc (.cells #[.string ⟨#[]⟩, .int .i64 0] 45)).cell? ⟨b, 2, none⟩ = some (.int .i64 n) := (B1.out.cell (p := ⟨b, 2, none⟩) hb).trans c2
  clear c0 c2
  go_enter Try.func30, Try.ntmps30
  go_wp2_with fail
  go_region
  go_wp2_with fail
  exact bodyPost_ret (v := .agg #[.string P, .int .i64 n]) (by simp [results, Try.results30, go_sem]) rfl ⟨rfl, ((Below.refl _ w).alloc (Nat.le_refl _) _).drew⟩
set_option maxHeartbeats 4000000 in
set_option maxRecDepth 100000 in
theorem get_calls {w : World} {A : Nat} {t : Tr} {vs : Nat → Value} {m : Nat} (h : TObj w A t vs m) (key : ByteArray) (hK : key.size ≤ 1000000) :
    Calls Try.prog 14 #[.pointer (some ⟨A, 0, none⟩), .string key] w fun e w' => e = .returned (.tuple #[.int .i64 ((look t key.data.toList).getD 0), .bool (look t key.data.toList).isSome]) ∧ Below w.heap.size w w' := by
  have HE := Lib.hid (end_lst h key hK)
  have HO := Lib.hid h
  clear h
  go_enter Try.func14, Try.ntmps14
  go_wp2_with fail
  refine HE.out.mono ?_; rintro en w1 ⟨b, rfl, hL, hB⟩
  have HL := Lib.hid hL
  have HB := Lib.hid hB
  have hn := (HO.out.below hB).tr.nod b hL.on.1
  have b0 := hn.c0
  have b1 := hn.c1
  have b2 := hn.c2
  clear HE hL hB hn
  by_cases he : t.tx b = key.data.toList
  · have hk : ((bs (t.tx b)).toList == key.toList) = true := by rw [he, bs_data]; exact beq_self_eq_true _
    have HG : Hid (look t key.data.toList = t.nm b) := Lib.hid (by rw [HL.out.get HO.out.ok, if_pos he])
    clear he
    generalize bs (t.tx b) = P at *
    generalize hnm : t.nm b = o at *
    clear hnm
    go_wp2_with fail
    go_region
    go_wp2_with fail
    go_ret2
    rw [HG.out]
    exact ⟨rfl, HB.out.drew⟩
  · have hk : ((bs (t.tx b)).toList == key.toList) = false := by
      rw [beq_eq_false_iff_ne, bs_toList, ByteArray.toList_eq]; exact he
    have HG : Hid (look t key.data.toList = none) := Lib.hid (by rw [HL.out.get HO.out.ok, if_neg he])
    clear he
    generalize bs (t.tx b) = P at *
    go_wp2_with fail
    go_ret2
    rw [HG.out]
    exact ⟨rfl, HB.out⟩
end Go.Proofs.Ytjfcdkmnccafaaa.Pb
