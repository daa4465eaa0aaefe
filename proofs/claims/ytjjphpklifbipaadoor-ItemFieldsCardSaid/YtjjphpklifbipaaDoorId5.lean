/- Costs of items that can be: plain. Conditions: bounds. -/
import Derived.Test.YtjjphpklifbipaaDoorId4
namespace Go.Proofs.YtjjphpklifbipaaDoor.Ia
open Go.ChangeShapes Go.WideShapes Go.ChangeAt Go.RowKit
theorem dv_digs : ∀ (l : List UInt8) (acc u : Nat), Num.dv acc l = some u → ∀ c ∈ l, 48 ≤ c.toNat ∧ c.toNat ≤ 57
  | [], _, _, _, c, h => by cases h
  | d :: r, acc, u, h, c, hc => by
    simp only [Num.dv] at h
    split at h
    · rename_i hd
      rcases List.mem_cons.1 hc with rfl | hc
      · exact hd
      · exact dv_digs r _ u h c hc
    · cases h
theorem itoa_mem9 (v : Int) (b : UInt8) (h : b ∈ Lib.itoa v) : (48 ≤ b.toNat ∧ b.toNat ≤ 57) ∨ b.toNat = 45 := by
  by_cases hv : 0 ≤ v
  · obtain ⟨u, rfl⟩ := Int.eq_ofNat_of_zero_le hv
    rw [Lib.itoa_nonneg] at h
    exact .inl (dv_digs _ 0 u (Num.dv_decDigits u) b h)
  · obtain ⟨u, hu⟩ : ∃ u : Nat, v = -(u : Int) := ⟨(-v).toNat, by omega⟩
    subst hu
    rw [Lib.itoa_neg u (by omega)] at h
    rcases List.mem_cons.1 h with rfl | h
    · exact .inr rfl
    · exact .inl (dv_digs _ 0 u (Num.dv_decDigits u) b h)
theorem wp_end {l : List UInt8} {b : UInt8} (h : b ∈ l) (hb : ¬ (48 ≤ b.toNat ∧ b.toNat ≤ 57)) (h2 : b.toNat ≠ 45) : Num.wp l = (0, 11) := by
  rcases Num.wp_cases l with ⟨v, -, -, e, -⟩ | ⟨-, e⟩
  · exfalso
    rw [← e] at h
    have h3 := itoa_mem9 v b h
    omega
  · exact e
theorem textC_x (t : ByteArray) : textC (t ++ ⟨#[120]⟩) = t.size + 1 := by
  have hw : Num.wp (t ++ ⟨#[120]⟩ : ByteArray).data.toList = (0, 11) := wp_end (b := 120) (by rw [ByteArray.data_append]; simp) (by decide) (by decide)
  unfold textC
  rw [hw, ByteArray.size_append]
  rfl
theorem textC_xy (t : ByteArray) : textC (t ++ ⟨#[120, 121]⟩) = t.size + 2 := by
  have hw : Num.wp (t ++ ⟨#[120, 121]⟩ : ByteArray).data.toList = (0, 11) := wp_end (b := 120) (by rw [ByteArray.data_append]; simp) (by decide) (by decide)
  unfold textC
  rw [hw, ByteArray.size_append]
  rfl
/-- The cost of an item that can be, at any key. -/
theorem cost_any (i : It) (hr : RightP i) : ∃ m : Nat, m ≤ 2000000 ∧ (i.k = 1 → m = textC i.t) ∧ (i.k = 2 → m = sumC i.l) ∧ ∀ (key : ByteArray), key.size ≤ 1000 → ∀ W a c, Ctx W → InF W a i.l →
    Calls Tryd.prog 15 #[.string key, .agg #[.int .i64 i.k, .string i.t, .slice a i.l.length c]] W fun e w' => e = .returned (.int .i64 ((48 + key.size + m : Nat) : Int)) ∧ Below W.heap.size W w' := by
  obtain ⟨k, t, l⟩ := i
  rcases hr with ⟨hk1, ht, hl⟩ | ⟨hk2, ht, hA⟩
  · have hk1 : k = 1 := hk1
    have ht : t.size ≤ 4096 := ht
    subst hk1
    refine ⟨textC t, by unfold textC; split <;> omega, fun _ => rfl, fun h => by have h : (1 : Int) = 2 := h; omega, fun key hk W a c hc hI => cost_text W hc key t _ (by omega) (by omega)⟩
  · have hk2 : k = 2 := hk2
    subst hk2
    have hl6 : l.length ≤ 256 := hA.2.1
    have hq : ∀ j (hj : j < l.length), l[j].1.size ≤ 600 ∧ l[j].2.size ≤ 5000 := fun j hj => by
      have h1 : l[j].1.size ≤ 512 := (hA.2.2 j hj).1
      have h2 : l[j].2.size ≤ 4096 := (hA.2.2 j hj).2.1
      exact ⟨by omega, by omega⟩
    have h1 := sumC_bound l hq
    exact ⟨sumC l, by omega, fun h => by have h : (2 : Int) = 1 := h; omega, fun _ => rfl, fun key hk W a c hc hI => cost_hash W key t a c _ l rfl (by omega) (by omega) (by omega) hI⟩
/-- A field in a box. -/
structure Cell2 (w : World) (b : Nat) (f : Fd) : Prop where
  lt : b < w.heap.size
  c0 : w.cell? ⟨b, 0, none⟩ = some (.string f.1)
  c1 : w.cell? ⟨b, 1, none⟩ = some (.string f.2)
theorem Cell2.below {W w : World} {b : Nat} {f : Fd} (h : Cell2 W b f) (hb : Below W.heap.size W w) : Cell2 w b f :=
  ⟨Nat.lt_of_lt_of_le h.lt hb.size, (hb.cell (p := ⟨b, 0, none⟩) h.lt).trans h.c0, (hb.cell (p := ⟨b, 1, none⟩) h.lt).trans h.c1⟩
theorem Cell2.new (w : World) (b : Nat) (hb : w.heap.size = b) (f : Fd) (T : TypeId) : Cell2 (w.alloc (.cells #[.string f.1, .string f.2] T)) b f := by
  subst hb
  exact ⟨by simp, by rw [World.cell?_alloc_new]; rfl, by rw [World.cell?_alloc_new]; rfl⟩
/-- What Put comes to where the name isn't there. -/
theorem put_new (t : ByteArray) (l : List Fd) (hA : AllR l) (n x : ByteArray) : ∃ (b : Bool) (e : Int), (∀ W a c, InF W a l → l.length ≤ c → c ≤ 9223372036854775807 → Calls Tryd.prog 20 #[.agg #[.int .i64 2, .string t, .slice a l.length c], .string n] W fun y w' => (∃ s, y = .returned (.tuple #[.string s, .bool b, .int .i64 0])) ∧ Below W.heap.size W w') ∧
    (∃ r d, (∀ W a c, InF W a l → l.length ≤ c → c ≤ 9223372036854775807 → Calls Tryd.prog 22 #[.agg #[.int .i64 2, .string t, .slice a l.length c], .string n, .string x] W fun y w' => ∃ v, y = .returned (.tuple #[v, .bool d, .int .i64 e]) ∧ ItV w' v r ∧ Below W.heap.size W w') ∧
      (b = true ∨ (e != 0) = true ∨ (b = false ∧ e = 0 ∧ d = true ∧ r.k = 2 ∧ r.t = ⟨#[]⟩ ∧ Up r.l ∧ r.l.length = l.length + 1 ∧ r.l.length ≤ 256 ∧ sumC r.l = sumC l + (16 + n.size + x.size)))) := by
  have hl6 : l.length ≤ 256 := hA.2.1
  obtain ⟨A, M, B, hs⟩ := split_of n hA.up
  have hL := hs.len
  refine ⟨there M, if (n.size ≤ 512 ∧ x.size ≤ 4096) ∧ (there M = true ∨ l.length < 256) then 0 else 94, fun W a c hI hc hc2 => (get_calls W 2 t a c _ n l A M B hs rfl (by omega) hI (.inr rfl)).mono (fun y w' h => ⟨⟨_, h.1⟩, h.2⟩), ?_⟩
  by_cases hb : (n.size ≤ 512 ∧ x.size ≤ 4096) ∧ (there M = true ∨ l.length < 256)
  · rw [if_pos hb]
    refine ⟨_, _, fun W a c hI hc hc2 => put_fits W 2 t a c _ n x l A M B hs rfl hc hc2 (by omega) hI (.inr rfl) hb, ?_⟩
    rcases M_cases hs with hM | ⟨y, hM⟩
    · have hth : there M = false := by rw [hM]; rfl
      have hlt : l.length < 256 := by rcases hb.2 with h | h; rw [hth] at h; cases h; exact h
      have hlAB : l = A ++ B := by rw [hs.e, hM]; simp
      have hl2 : l.length = A.length + B.length := by rw [hlAB]; simp
      have hup := hs.up (t := x) hA.up
      refine .inr (.inr ⟨hth, rfl, by rw [hth]; rfl, rfl, rfl, ?_, ?_, ?_, ?_⟩)
      · show Up (A ++ [(n, x)] ++ B)
        rw [List.append_assoc]; exact hup
      · show (A ++ [(n, x)] ++ B).length = _
        simp; omega
      · show (A ++ [(n, x)] ++ B).length ≤ 256
        simp; omega
      · show sumC (A ++ [(n, x)] ++ B) = _
        rw [sumC_app, sumC_app, hlAB, sumC_app]
        simp [sumC]
        omega
    · exact .inl (by rw [hM]; rfl)
  · rw [if_neg hb]
    exact ⟨_, _, fun W a c hI hc hc2 => put_big W 2 t a c _ n x l A M B hs rfl (by omega) hI (.inr rfl) hb, .inr (.inl rfl)⟩
end Go.Proofs.YtjjphpklifbipaaDoor.Ia
