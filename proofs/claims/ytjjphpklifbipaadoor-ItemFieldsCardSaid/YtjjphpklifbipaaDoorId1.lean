/- Items that can be, or none; both Appends; regions that draw their order over the worlds in which what lay there stands. No condition but bounds. -/
import Derived.Test.YtjjphpklifbipaaDoorIc5
import Derived.Test.YtjjphpklifbipaaDoorIc6
import Derived.Test.YtjjphpklifbipaaDoorIc8
import Derived.Test.YtjjphpklifbipaaDoorIa9
import Derived.Test.YtjjphpklifbipaaDoorIb4
import Derived.Test.YtjjphpklifbipaaDoorIb5
import Derived.Deep.Quiet
namespace Go.Proofs.YtjjphpklifbipaaDoor.Ia
open Go.ChangeShapes Go.WideShapes Go.ChangeAt Go.RowKit
/-- The class of worlds that F names. -/
theorem wp_region_cls {P : Program} {id : Nat} {Q : Exit → Act → World → Prop} {a : Act} {w : World} {l : List Oper} {T : Type} (F : T → World) (hm : P.follows .mixedOrders = true) (hB : Region.lexB .any l.toArray = true)
    (h0 : ∃ x, w.drew = F x) (h : wpQuiet P l.toArray (fun w' => ∃ x, w' = F x) (fun a' => ∀ w', (∃ x, w' = F x) → Q .normal a' w') l a) : (Code.region id l.toArray true).wp P Q a w :=
  wp_region_quiet (C := fun w' => ∃ x, w' = F x) hm hB h0 (by simpa using h)
/-- All worlds in which what lay in w stands. -/
def Ovr (w : World) : Type := { x : World // Below w.heap.size w x }
instance (w : World) : Nonempty (Ovr w) := ⟨⟨w, Below.refl _ _⟩⟩
theorem ovr (w : World) : ∃ F : Ovr w → World, (∀ x, Below w.heap.size w (F x)) ∧ (∃ x, w.drew = F x) ∧ (∀ x w', Below (F x).heap.size (F x) w' → ∃ y, w' = F y) :=
  ⟨fun x => x.1, fun x => x.2, ⟨⟨w.drew, (Below.refl _ _).drew⟩, rfl⟩, fun x w' h => ⟨⟨w', x.2.trans (h.mono x.2.size)⟩, rfl⟩⟩
theorem q_ovr {P : Program} {f : FuncId} {args : Array Value} {w : World} {F : Ovr w → World} (hF : ∀ x w', Below (F x).heap.size (F x) w' → ∃ y, w' = F y) {x : Ovr w} {v : Value}
    (h : Calls P f args (F x) fun e w' => e = .returned v ∧ Below (F x).heap.size (F x) w') : Calls P f args (F x) fun e w' => e = .returned v ∧ ∃ y, w' = F y :=
  h.mono fun _ _ ⟨he, hb⟩ => ⟨he, hF _ _ hb⟩
/-- An item that can be, or none. -/
def Fit (i : It) : Prop := RightP i ∨ (i.k = 0 ∧ (i.t.toList == []) = true ∧ i.l.length = 0)
theorem Fit.kinds {i : It} (h : Fit i) : (i.k = 1 ∧ i.t.size ≤ 4096 ∧ i.l = []) ∨ (i.k = 2 ∧ i.t = ⟨#[]⟩ ∧ AllR i.l) ∨ (i.k = 0 ∧ i.t = ⟨#[]⟩ ∧ i.l = []) := by
  rcases h with (h | h) | h
  · exact .inl ⟨h.1, h.2.1, List.eq_nil_of_length_eq_zero h.2.2⟩
  · exact .inr (.inl ⟨h.1, empty_iff.1 h.2.1, h.2.2⟩)
  · exact .inr (.inr ⟨h.1, empty_iff.1 h.2.1, List.eq_nil_of_length_eq_zero h.2.2⟩)
theorem Fit.up {i : It} (h : Fit i) : Up i.l := by
  rcases h.kinds with h | h | h
  · rw [h.2.2]; exact List.Pairwise.nil
  · exact h.2.2.up
  · rw [h.2.2]; exact List.Pairwise.nil
theorem Fit.len {i : It} (h : Fit i) : i.l.length ≤ 256 := by
  rcases h.kinds with h | h | h
  · rw [h.2.2]; simp
  · exact h.2.2.2.1
  · rw [h.2.2]; simp
theorem Fit.tlen {i : It} (h : Fit i) : i.t.size ≤ 4096 := by
  rcases h.kinds with h | h | h
  · exact h.2.1
  · rw [h.2.1]; decide
  · rw [h.2.1]; decide
set_option maxHeartbeats 4000000 in
set_option maxRecDepth 100000 in
theorem fits_calls (w : World) (k : Int) (t : ByteArray) (a : Option Addr) (c len : Nat) (l : List Fd) (hlen : len = l.length) (hI : InF w a l) (b0 : Bool) (hb0 : b0 = true ↔ Fit ⟨k, t, l⟩) :
    Calls Tryd.prog 17 #[.agg #[.int .i64 k, .string t, .slice a len c]] w fun e w' => e = .returned (.bool b0) ∧ Below w.heap.size w w' := by
  subst hlen
  obtain ⟨b1, hb1⟩ := some_b (RightP ⟨k, t, l⟩)
  have HR := Lib.hid (fun O => refRight_calls (w.alloc O) k t a c _ l rfl (hI.below (Nat.le_refl _) (bbox O)) b1 hb1)
  have HC := Lib.hid (fun T => Cell3.new w (.int .i64 k) (.string t) (.slice a l.length c) T)
  clear hI
  cases b1 with
  | true =>
    obtain rfl := bt hb0 (.inl (hb1.1 rfl))
    clear hb0 hb1
    go_enter Tryd.func17, Tryd.ntmps17
    go_wp2_with fail
    refine (HR.out _).mono ?_
    rintro e w2 ⟨rfl, hb⟩
    have HB := Lib.hid (bstep (bbox _) hb)
    clear hb
    go_wp2_with fail
    go_ret
    exact ⟨rfl, HB.out⟩
  | false =>
    have hno : ¬ RightP ⟨k, t, l⟩ := fun h => by have := hb1.2 h; cases this
    by_cases hk : k = 0
    · have hkb : (k == 0) = true := by rw [hk]; rfl
      cases ht : t.toList.isEmpty with
      | true =>
        by_cases hl : l.length = 0
        · have hlb : ((l.length : Int) == 0) = true := by rw [hl]; rfl
          obtain rfl := bt hb0 (.inr ⟨hk, by rw [isE]; exact ht, hl⟩)
          clear hb0 hb1 hno hk hl
          go_enter Tryd.func17, Tryd.ntmps17
          go_wp2_with fail
          refine (HR.out _).mono ?_
          rintro e w2 ⟨rfl, hb⟩
          have HB := Lib.hid (bstep (bbox _) hb)
          have HC2 := (HC.out _).below hb
          have c0 := HC2.c0
          have c1 := HC2.c1
          have c2 := HC2.c2
          clear hb HC2
          go_wp2_with fail
          go_ret
          exact ⟨rfl, HB.out⟩
        · have hlb : ((l.length : Int) == 0) = false := by rw [beq_eq_false_iff_ne]; omega
          obtain rfl := bf hb0 (fun h => by rcases h with h | h; exact hno h; exact hl h.2.2)
          clear hb0 hb1 hno hk hl
          go_enter Tryd.func17, Tryd.ntmps17
          go_wp2_with fail
          refine (HR.out _).mono ?_
          rintro e w2 ⟨rfl, hb⟩
          have HB := Lib.hid (bstep (bbox _) hb)
          have HC2 := (HC.out _).below hb
          have c0 := HC2.c0
          have c1 := HC2.c1
          have c2 := HC2.c2
          clear hb HC2
          go_wp2_with fail
          go_ret
          exact ⟨rfl, HB.out⟩
      | false =>
        obtain rfl := bf hb0 (fun h => by rcases h with h | h; exact hno h; have := h.2.1; rw [isE] at this; rw [show t.toList.isEmpty = false from ht] at this; cases this)
        clear hb0 hb1 hno hk
        go_enter Tryd.func17, Tryd.ntmps17
        go_wp2_with fail
        refine (HR.out _).mono ?_
        rintro e w2 ⟨rfl, hb⟩
        have HB := Lib.hid (bstep (bbox _) hb)
        have HC2 := (HC.out _).below hb
        have c0 := HC2.c0
        have c1 := HC2.c1
        have c2 := HC2.c2
        clear hb HC2
        go_wp2_with fail
        go_ret
        exact ⟨rfl, HB.out⟩
    · have hkb : (k == 0) = false := by rw [beq_eq_false_iff_ne]; exact hk
      obtain rfl := bf hb0 (fun h => by rcases h with h | h; exact hno h; exact hk h.1)
      clear hb0 hb1 hno hk
      go_enter Tryd.func17, Tryd.ntmps17
      go_wp2_with fail
      refine (HR.out _).mono ?_
      rintro e w2 ⟨rfl, hb⟩
      have HB := Lib.hid (bstep (bbox _) hb)
      have HC2 := (HC.out _).below hb
      have c0 := HC2.c0
      have c1 := HC2.c1
      have c2 := HC2.c2
      clear hb HC2
      go_wp2_with fail
      go_ret
      exact ⟨rfl, HB.out⟩
/-- Both answer the same: an item, and the error's number. -/
def Two2 (f g : FuncId) (args : Option Addr → Nat → Array Value) (i : It) (r : It) (e : Int) : Prop :=
  (∀ W a c, InF W a i.l → i.l.length ≤ c → c ≤ 9223372036854775807 → Calls Tryd.prog f (args a c) W fun x w' => ∃ v, x = .returned (.tuple #[v, .int .i64 e]) ∧ ItV w' v r ∧ Below W.heap.size W w') ∧
  (∀ W a c, InF W a i.l → i.l.length ≤ c → c ≤ 9223372036854775807 → Calls Tryd.prog g (args a c) W fun x w' => ∃ v, x = .returned (.tuple #[v, .int .i64 e]) ∧ ItV w' v r ∧ Below W.heap.size W w')
def Two3 (f g : FuncId) (args : Option Addr → Nat → Array Value) (i : It) (r : It) (b : Bool) (e : Int) : Prop :=
  (∀ W a c, InF W a i.l → i.l.length ≤ c → c ≤ 9223372036854775807 → Calls Tryd.prog f (args a c) W fun x w' => ∃ v, x = .returned (.tuple #[v, .bool b, .int .i64 e]) ∧ ItV w' v r ∧ Below W.heap.size W w') ∧
  (∀ W a c, InF W a i.l → i.l.length ≤ c → c ≤ 9223372036854775807 → Calls Tryd.prog g (args a c) W fun x w' => ∃ v, x = .returned (.tuple #[v, .bool b, .int .i64 e]) ∧ ItV w' v r ∧ Below W.heap.size W w')
def arg1 (i : It) (s : ByteArray) (a : Option Addr) (c : Nat) : Array Value := #[.agg #[.int .i64 i.k, .string i.t, .slice a i.l.length c], .string s]
def arg2 (i : It) (n t : ByteArray) (a : Option Addr) (c : Nat) : Array Value := #[.agg #[.int .i64 i.k, .string i.t, .slice a i.l.length c], .string n, .string t]
theorem put_both (i : It) (hf : Fit i) (n t : ByteArray) : ∃ r b e, Two3 22 23 (arg2 i n t) i r b e := by
  obtain ⟨k, tx, l⟩ := i
  have hup : Up l := hf.up
  have hlen : l.length ≤ 256 := hf.len
  obtain ⟨A, M, B, hs⟩ := split_of n hup
  have hk : k = 1 ∨ k = 0 ∨ k = 2 := by rcases hf.kinds with h | h | h; exact .inl h.1; exact .inr (.inr h.1); exact .inr (.inl h.1)
  rcases hk with rfl | hk
  · exact ⟨⟨1, tx, l⟩, false, 91, fun W a c hI hc hc2 => put_kind W 1 tx a c _ n t l rfl (by omega) hI ⟨by omega, by omega⟩, fun W a c hI hc hc2 => refPut_kind W tx a c _ n t l rfl hc hc2 hI⟩
  · have hk1 : k ≠ 1 := by omega
    by_cases hb : (n.size ≤ 512 ∧ t.size ≤ 4096) ∧ (there M = true ∨ l.length < 256)
    · exact ⟨_, _, _, fun W a c hI hc hc2 => put_fits W k tx a c _ n t l A M B hs rfl hc hc2 (by omega) hI hk hb, fun W a c hI hc hc2 => refPut_fits W k tx a c _ n t l A M B hs rfl hc hc2 (by omega) hI hk1 hb⟩
    · exact ⟨_, _, _, fun W a c hI hc hc2 => put_big W k tx a c _ n t l A M B hs rfl (by omega) hI hk hb, fun W a c hI hc hc2 => refPut_big W k tx a c _ n t l A M B hs rfl hc hc2 hI hk1 hb⟩
theorem drop_both (i : It) (hf : Fit i) (n : ByteArray) : ∃ r b e, Two3 24 25 (arg1 i n) i r b e := by
  obtain ⟨k, tx, l⟩ := i
  have hup : Up l := hf.up
  have hlen : l.length ≤ 256 := hf.len
  obtain ⟨A, M, B, hs⟩ := split_of n hup
  have hkd := hf.kinds
  have hk : k = 1 ∨ k = 0 ∨ k = 2 := by rcases hkd with h | h | h; exact .inl h.1; exact .inr (.inr h.1); exact .inr (.inl h.1)
  have hD := hs.dropF
  have hL := hs.len
  rcases hk with rfl | hk
  · exact ⟨⟨1, tx, l⟩, false, 91, fun W a c hI hc hc2 => drop_not W 1 tx a c _ n l 0 91 rfl (by omega) hI (fun W' _ => find_kind W' 1 tx _ n ⟨by omega, by omega⟩), fun W a c hI hc hc2 => refDrop_kind W tx a c _ n l rfl hc hc2 hI⟩
  · have hk1 : k ≠ 1 := by omega
    have htx : tx = ⟨#[]⟩ := by rcases hkd with h | h | h; exact absurd h.1 hk1; exact h.2.1; exact h.2.1
    subst htx
    rcases M_cases hs with hM | ⟨x, hM⟩
    · have hth : there M = false := by rw [hM]; rfl
      have hl0 : A ++ B = l := by rw [hs.e, hM]; simp
      have h1 : decide ((dropF n l).length < l.length) = false := by rw [hD, hl0]; simp
      refine ⟨⟨k, ⟨#[]⟩, l⟩, false, 0, fun W a c hI hc hc2 => drop_not W k ⟨#[]⟩ a c _ n l A.length 0 rfl (by omega) hI (fun W' h => by have := find_calls W' k ⟨#[]⟩ a c _ n l A M B hs rfl (by omega) (hI.below (Nat.le_refl _) h) hk; rw [hth] at this; exact this), fun W a c hI hc hc2 => refDrop_calls W k ⟨#[]⟩ a c _ n l rfl (by omega) hI hk1 false h1 _ ?_⟩
      rw [hD, hl0]
      by_cases hz : l.length = 0
      · rw [if_pos hz]
        have hk0 : k = 0 := by
          rcases hkd with h | h | h
          · exact absurd h.1 hk1
          · have h2 : 0 < l.length := h.2.2.1; omega
          · exact h.1
        rw [hk0, List.eq_nil_of_length_eq_zero hz]
      · rw [if_neg hz]
    · have hth : there M = true := by rw [hM]; rfl
      have hml : M.length = 1 := by rw [hM]; rfl
      have hk2 : k = 2 := by
        rcases hkd with h | h | h
        · exact absurd h.1 hk1
        · exact h.1
        · have h2 : l = [] := h.2.2; rw [h2] at hL; simp at hL; omega
      subst hk2
      have hdl : (dropF n l).length = A.length + B.length := by rw [hD]; simp
      have h1 : decide ((dropF n l).length < l.length) = true := by rw [hdl]; exact decide_eq_true (by omega)
      by_cases h1l : l.length = 1
      · refine ⟨⟨0, ⟨#[]⟩, []⟩, true, 0, fun W a c hI hc hc2 => (drop_last W 2 ⟨#[]⟩ a c _ n l A M B hs rfl h1l hI hk hth).mono ?_, fun W a c hI hc hc2 => refDrop_calls W 2 ⟨#[]⟩ a c _ n l rfl (by omega) hI hk1 true h1 _ (by rw [if_pos (by omega)])⟩
        rintro e w' ⟨rfl, hb⟩
        exact ⟨_, rfl, ⟨none, 0, rfl, Nat.zero_le _, Nat.zero_le _, InF.nil _ _⟩, hb⟩
      · exact ⟨_, _, _, fun W a c hI hc hc2 => drop_some W 2 ⟨#[]⟩ a c _ n l A M B hs rfl h1l hc hc2 (by omega) hI hk hth, fun W a c hI hc hc2 => refDrop_calls W 2 ⟨#[]⟩ a c _ n l rfl (by omega) hI hk1 true h1 _ (by rw [if_neg (by omega), hD])⟩
/-- Both Gets answer the same. -/
theorem get_both (i : It) (hf : Fit i) (n : ByteArray) : ∃ s b e, (∀ W a c, InF W a i.l → i.l.length ≤ c → c ≤ 9223372036854775807 → Calls Tryd.prog 20 (arg1 i n a c) W fun x w' => x = .returned (.tuple #[.string s, .bool b, .int .i64 e]) ∧ Below W.heap.size W w') ∧
    (∀ W a c, InF W a i.l → i.l.length ≤ c → c ≤ 9223372036854775807 → Calls Tryd.prog 21 (arg1 i n a c) W fun x w' => x = .returned (.tuple #[.string s, .bool b, .int .i64 e]) ∧ Below W.heap.size W w') := by
  obtain ⟨k, tx, l⟩ := i
  have hup : Up l := hf.up
  have hlen : l.length ≤ 256 := hf.len
  obtain ⟨A, M, B, hs⟩ := split_of n hup
  have hk : k = 1 ∨ k = 0 ∨ k = 2 := by rcases hf.kinds with h | h | h; exact .inl h.1; exact .inr (.inr h.1); exact .inr (.inl h.1)
  rcases hk with rfl | hk
  · exact ⟨⟨#[]⟩, false, 91, fun W a c hI hc hc2 => get_kind W 1 tx _ n ⟨by omega, by omega⟩, fun W a c hI hc hc2 => refGet_kind W tx a c _ n⟩
  · exact ⟨_, _, _, fun W a c hI hc hc2 => get_calls W k tx a c _ n l A M B hs rfl (by omega) hI hk, fun W a c hI hc hc2 => refGet_calls W k tx a c _ n l A M B hs rfl hc hc2 hI (by omega)⟩
end Go.Proofs.YtjjphpklifbipaaDoor.Ia
