/- Put: a key has a number. Conditions: the tree as it lies; bounds. -/
import Derived.Test.YtjfcdkmnccafaaaPbb
namespace Go.Proofs.Ytjfcdkmnccafaaa.Pb
open Go.ChangeShapes Go.WideShapes Go.ChangeAt Go.RowKit
/-- A key's number. -/
def look (t : Tr) (K : T) : Option Int := (t.B.find? (fun b => decide (t.tx b = K))).bind t.nm
theorem look_at {t : Tr} (ho : Ok t) {b : Nat} (hb : b ∈ t.B) : look t (t.tx b) = t.nm b := by
  unfold look
  cases he : t.B.find? (fun c => decide (t.tx c = t.tx b)) with
  | none => exact absurd (List.find?_eq_none.1 he b hb) (by simp)
  | some c =>
    have h1 := List.find?_some he
    have h2 := List.mem_of_find?_eq_some he
    rw [ho.inj c h2 b hb (of_decide_eq_true h1)]
    rfl
theorem look_no {t : Tr} {K : T} (h : ∀ b ∈ t.B, t.tx b ≠ K) : look t K = none := by
  unfold look
  rw [List.find?_eq_none.2 (fun b hb e => h b hb (of_decide_eq_true e))]
  rfl
theorem look_st {t0 t : Tr} (h : St t0 t) (h0 : Ok t0) (ho : Ok t) (K : T) : look t K = look t0 K := by
  by_cases hK : ∃ b ∈ t.B, t.tx b = K
  · obtain ⟨b, hb, rfl⟩ := hK
    rw [look_at ho hb]
    by_cases hb0 : b ∈ t0.B
    · obtain ⟨-, e1, e2⟩ := h.sub b hb0
      rw [e1, look_at h0 hb0, e2]
    · rw [h.new b hb hb0, look_no (fun c hc e => hb0 (by
        obtain ⟨i, e1, -⟩ := h.sub c hc
        have := ho.inj c i b hb (by rw [e1, e])
        rw [← this]; exact hc))]
  · rw [look_no (fun b hb e => hK ⟨b, hb, e⟩), look_no (fun b hb e => hK ⟨b, (h.sub b hb).1, by rw [(h.sub b hb).2.1, e]⟩)]
theorem look_mark {t : Tr} (ho : Ok t) {b : Nat} (hb : b ∈ t.B) (o : Option Int) (K : T) : look (t.mark b o) K = if K = t.tx b then o else look t K := by
  have hm := ho.mark b o
  by_cases hK : ∃ c ∈ t.B, t.tx c = K
  · obtain ⟨c, hc, rfl⟩ := hK
    have h1 : look (t.mark b o) (t.tx c) = if c = b then o else t.nm c := look_at hm (b := c) hc
    rw [h1, look_at ho hc]
    by_cases hcb : c = b
    · rw [if_pos hcb, if_pos (by rw [hcb])]
    · rw [if_neg hcb, if_neg (fun e => hcb (ho.inj c hc b hb e))]
  · rw [look_no (t := t) (fun c hc e => hK ⟨c, hc, e⟩), if_neg (fun e => hK ⟨b, hb, e.symm⟩)]
    exact look_no (t := t.mark b o) (fun c hc e => hK ⟨c, hc, e⟩)
theorem Mn.mark {t : Tr} {b : Nat} (h : Mn t (some b)) (n : Int) : Mn (t.mark b (some n)) none := fun c hc hr _ => by
  by_cases hcb : c = b
  · exact .inl (by show (if c = b then some n else t.nm c) ≠ none; rw [if_pos hcb]; simp)
  · rcases h c hc hr (fun e => hcb (by injection e)) with h | h
    · exact .inl (by show (if c = b then some n else t.nm c) ≠ none; rw [if_neg hcb]; exact h)
    · exact .inr h
/-- One more, where there was none. -/
def fresh : Option Int → Nat
  | none => 1
  | some _ => 0
/-- Two cells of a node that are written. -/
theorem mark_mem {w w' : World} {A : Nat} {t : Tr} {vs : Nat → Value} {m m' : Nat} {b : Nat} {o : Option Int} (h : TObj w A t vs m) (hb : b ∈ t.B) (hw : ∀ y, y ≠ b → y ≠ A → w'.heap[y]? = w.heap[y]?) (hn : NdAt w' b (t.tx b) o (vs b))
    (h0 : w'.cell? ⟨A, 0, none⟩ = w.cell? ⟨A, 0, none⟩) (h1 : w'.cell? ⟨A, 1, none⟩ = some (.int .i64 m')) (h2 : w'.cell? ⟨A, 2, none⟩ = w.cell? ⟨A, 2, none⟩) (hf : ∀ j, w'.frozen? ⟨A, j, none⟩ = false) : TObj w' A (t.mark b o) vs m' := by
  refine ⟨⟨fun c hc => ?_, fun c hc => (h.tr.row c hc).keep (fun g hg => ?_), h.tr.rap, h.tr.rno⟩, h.ok.mark b o, h0.trans h.c0, h1, h2.trans h.c2, hf, h.na, h.nr, h.ln⟩
  · show NdAt w' c (t.tx c) (if c = b then o else t.nm c) (vs c)
    by_cases hcb : c = b
    · rw [if_pos hcb, hcb]; exact hn
    · rw [if_neg hcb]; exact (h.tr.nod c hc).keep (hw c hcb (fun e => h.na (e ▸ hc)))
  · exact hw g (fun e => (ob_lt h hc hg).2.1 (e ▸ hb)) (ob_lt h hc hg).2.2
theorem TObj.marked {w : World} {A : Nat} {t : Tr} {vs : Nat → Value} {m : Nat} {b : Nat} (h : TObj w A t vs m) (hb : b ∈ t.B) (o : Option Int) :
    TObj ((w.setCell ⟨b, 1, none⟩ (.bool o.isSome)).setCell ⟨b, 2, none⟩ (.int .i64 (o.getD 0))) A (t.mark b o) vs m ∧ Fr (own A t vs) w ((w.setCell ⟨b, 1, none⟩ (.bool o.isSome)).setCell ⟨b, 2, none⟩ (.int .i64 (o.getD 0))) := by
  have hbA : b ≠ A := fun e => h.na (e ▸ hb)
  have n0 := h.tr.nod b hb
  have e5 : ∀ y, y ≠ b → ((w.setCell ⟨b, 1, none⟩ (.bool o.isSome)).setCell ⟨b, 2, none⟩ (.int .i64 (o.getD 0))).heap[y]? = w.heap[y]? := fun y hy => (Below.heap_setCell _ ⟨b, 2, none⟩ _ y hy).trans (Below.heap_setCell _ ⟨b, 1, none⟩ _ y hy)
  have c2 : ∀ j, j ≠ 1 → j ≠ 2 → ((w.setCell ⟨b, 1, none⟩ (.bool o.isSome)).setCell ⟨b, 2, none⟩ (.int .i64 (o.getD 0))).cell? ⟨b, j, none⟩ = w.cell? ⟨b, j, none⟩ := fun j h1 h2 => by
    rw [World.cell?_setCell_other _ _ _ _ (addr_ne (.inr (fun e => h2 e.symm))), World.cell?_setCell_other _ _ _ _ (addr_ne (.inr (fun e => h1 e.symm)))]
  have z1 : (w.setCell ⟨b, 1, none⟩ (.bool o.isSome)).cell? ⟨b, 1, none⟩ = some (.bool o.isSome) := World.cell?_setCell_same _ _ _ n0.c1
  have z2 : (w.setCell ⟨b, 1, none⟩ (.bool o.isSome)).cell? ⟨b, 2, none⟩ = some (.int .i64 ((t.nm b).getD 0)) := (World.cell?_setCell_other _ _ _ _ (addr_ne (.inr (by decide)))).trans n0.c2
  have eA := e5 A (fun e => hbA e.symm)
  refine ⟨mark_mem h hb (fun y hy _ => e5 y hy) ⟨(c2 0 (by decide) (by decide)).trans n0.c0, (World.cell?_setCell_other _ _ _ _ (addr_ne (.inr (by decide)))).trans z1, World.cell?_setCell_same _ _ _ z2, (c2 3 (by decide) (by decide)).trans n0.c3, fun j => by rw [World.frozen?_setCell, World.frozen?_setCell]; exact n0.fz j⟩
    (World.cell?_of_block (a := ⟨A, 0, none⟩) eA) ((World.cell?_of_block (a := ⟨A, 1, none⟩) eA).trans h.c1) (World.cell?_of_block (a := ⟨A, 2, none⟩) eA) (fun j => (World.frozen?_of_block (a := ⟨A, j, none⟩) eA).trans (h.fz j)), ?_⟩
  exact (Fr.setCell w ⟨b, 1, none⟩ (.inr (.inl hb)) _).trans2 (Fr.setCell _ ⟨b, 2, none⟩ (S := own A t vs) (.inr (.inl hb)) _) (fun _ _ h => h)
theorem TObj.count {w : World} {A : Nat} {t : Tr} {vs : Nat → Value} {m : Nat} (h : TObj w A t vs m) (m' : Nat) : TObj (w.setCell ⟨A, 1, none⟩ (.int .i64 m')) A t vs m' ∧ Fr (own A t vs) w (w.setCell ⟨A, 1, none⟩ (.int .i64 m')) := by
  have e5 : ∀ y, y ≠ A → (w.setCell ⟨A, 1, none⟩ (.int .i64 m')).heap[y]? = w.heap[y]? := fun y hy => Below.heap_setCell _ ⟨A, 1, none⟩ _ y hy
  refine ⟨⟨h.tr.keep fun x hx => e5 x ?_, h.ok, (World.cell?_setCell_other _ _ _ _ (addr_ne (.inr (by decide)))).trans h.c0, World.cell?_setCell_same _ _ _ h.c1, (World.cell?_setCell_other _ _ _ _ (addr_ne (.inr (by decide)))).trans h.c2, fun j => by rw [World.frozen?_setCell]; exact h.fz j, h.na, h.nr, h.ln⟩, Fr.setCell w ⟨A, 1, none⟩ (.inl rfl) _⟩
  rcases hx with hx | ⟨b, hb, hx⟩
  · exact fun e => h.na (e ▸ hx)
  · exact fun e => h.nr b hb (e ▸ hx)
set_option maxHeartbeats 4000000 in
set_option maxRecDepth 100000 in
theorem put_calls {w : World} {A : Nat} {t0 : Tr} {vs0 : Nat → Value} {m : Nat} (h : TObj w A t0 vs0 m) (key : ByteArray) (n : Int) (hm0 : Mn t0 none) (hK : key.size ≤ 1000000) (hN : t0.B.length ≤ 1000000) (hm : m ≤ 1000000) :
    Calls Try.prog 7 #[.pointer (some ⟨A, 0, none⟩), .string key, .int .i64 n] w fun e w' => e = .returned (.bool (look t0 key.data.toList).isNone) ∧ ∃ t vs, TObj w' A t vs (m + fresh (look t0 key.data.toList)) ∧ Mn t none ∧ (∀ K, look t K = if K = key.data.toList then some n else look t0 K) ∧
      t.B.length ≤ t0.B.length + 2 ∧ Fr (own A t0 vs0) w w' ∧ ∀ y, own A t vs y → own A t0 vs0 y ∨ w.heap.size ≤ y := by
  obtain ⟨L, hL⟩ : ∃ L, L = look t0 key.data.toList := ⟨_, rfl⟩
  rw [← hL]
  have HL0 := Lib.hid hL
  clear hL
  have HP := Lib.hid (place_calls h key hm0 hK hN)
  have HO := Lib.hid h.ok
  clear h hm0 hK hN
  go_enter Try.func7, Try.ntmps7
  go_wp2_with fail
  refine HP.out.mono ?_; rintro en w1 ⟨b, rfl, t, vs, hT, hb, htx, hst, hmn, hlen, hfr, how⟩
  have HT := Lib.hid hT
  have hbA : b ≠ A := fun e => hT.na (e ▸ hb)
  have hlk : look t0 key.data.toList = t.nm b := by rw [← look_st hst HO.out hT.ok, ← htx, look_at hT.ok hb]
  have HLK : Hid (∀ K, look (t.mark b (some n)) K = if K = key.data.toList then some n else look t0 K) := Lib.hid (fun K => by rw [look_mark hT.ok hb, look_st hst HO.out hT.ok, htx])
  have b1 := (hT.tr.nod b hb).c1
  have f1 := (hT.tr.nod b hb).fz 1
  have b2 : (w1.setCell ⟨b, 1, none⟩ (.bool true)).cell? ⟨b, 2, none⟩ = some (.int .i64 ((t.nm b).getD 0)) := (World.cell?_setCell_other _ _ _ _ (addr_ne (.inr (by decide)))).trans (hT.tr.nod b hb).c2
  have f2 : (w1.setCell ⟨b, 1, none⟩ (.bool true)).frozen? ⟨b, 2, none⟩ = false := by rw [World.frozen?_setCell]; exact (hT.tr.nod b hb).fz 2
  have HM := Lib.hid (hT.marked hb (some n))
  have HX := Lib.hid (⟨hmn.mark n, hlen, hfr, how⟩ : Mn (t.mark b (some n)) none ∧ t.B.length ≤ t0.B.length + 2 ∧ Fr (own A t0 vs0) w w1 ∧ ∀ y, own A t vs y → own A t0 vs0 y ∨ w.heap.size ≤ y)
  have HLQ : Hid (L = t.nm b) := Lib.hid (HL0.out.trans hlk)
  have a1 := HM.out.1.c1
  have g1 := HM.out.1.fz 1
  simp only [Option.isSome_some, Option.getD_some] at a1 g1
  have HC := Lib.hid (HM.out.1.count (m + 1))
  clear hT hb htx hst hmn hlen hfr how hlk HP
  cases hnm : t.nm b with
  | none =>
    rw [hnm] at b1 b2
    simp only [Option.isSome_none, Option.getD_none] at b1 b2
    go_wp2_with fail
    go_ret
    have hX := HX.out
    have hS : ∀ i, i < w.heap.size → own A t vs i → own A t0 vs0 i := fun i hi hh => (hX.2.2.2 i hh).elim id (fun e => by omega)
    rw [HLQ.out, hnm]
    exact ⟨rfl, _, _, HC.out.1, hX.1, HLK.out, hX.2.1, (hX.2.2.1.trans2 HM.out.2 hS).trans2 HC.out.2 hS, hX.2.2.2⟩
  | some z =>
    rw [hnm] at b1 b2
    simp only [Option.isSome_some, Option.getD_some] at b1 b2
    go_wp2_with fail
    go_ret
    have hX := HX.out
    have hS : ∀ i, i < w.heap.size → own A t vs i → own A t0 vs0 i := fun i hi hh => (hX.2.2.2 i hh).elim id (fun e => by omega)
    rw [HLQ.out, hnm]
    exact ⟨rfl, _, _, HM.out.1, hX.1, HLK.out, hX.2.1, hX.2.2.1.trans2 HM.out.2 hS, hX.2.2.2⟩
end Go.Proofs.Ytjfcdkmnccafaaa.Pb
