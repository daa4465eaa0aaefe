/- Package store: the chapter's example, plain; ten; the table of a Store (Len, Keys). No condition. -/
import Derived.Test.YtmakmaambjgcnaaDoorSaD
import Derived.Laws.StructEq
namespace Go.Proofs.YtmakmaambjgcnaaDoor.Sa
set_option linter.unusedVariables false
set_option linter.unusedSimpArgs false
open Go.ChangeShapes Go.WideShapes Go.ChangeAt Go.RowKit
open Sp (Th Hp Stays All Ro roT rowT cellsT exT puT star)
theorem dv_digs : ∀ (l : List UInt8) (acc u : Nat), Num.dv acc l = some u → ∀ c ∈ l, 48 ≤ c.toNat ∧ c.toNat ≤ 57
  | [], _, _, _, c, h => by cases h
  | d :: r, acc, u, h, c, hc => by
    simp only [Num.dv] at h
    split at h
    · rename_i hd
      rcases List.mem_cons.1 hc with rfl | hc
      · exact hd
      · exact dv_digs r _ u h c hc
    · cases h
theorem itoa_mem (v : Int) (b : UInt8) (h : b ∈ Lib.itoa v) : (48 ≤ b.toNat ∧ b.toNat ≤ 57) ∨ b.toNat = 45 := by
  by_cases hv : 0 ≤ v
  · obtain ⟨u, rfl⟩ := Int.eq_ofNat_of_zero_le hv
    rw [Lib.itoa_nonneg] at h
    exact .inl (dv_digs _ 0 u (Num.dv_decDigits u) b h)
  · obtain ⟨u, hu⟩ : ∃ u : Nat, v = -(u : Int) := ⟨(-v).toNat, by omega⟩
    subst hu
    rw [Lib.itoa_neg u (by omega)] at h
    rcases List.mem_cons.1 h with rfl | h
    · exact .inr rfl
    · exact .inl (dv_digs _ 0 u (Num.dv_decDigits u) b h)
theorem wp_end {l : List UInt8} {b : UInt8} (h : b ∈ l) (hb : ¬ (48 ≤ b.toNat ∧ b.toNat ≤ 57)) (h2 : b.toNat ≠ 45) : Num.wp l = (0, 11) := by
  rcases Num.wp_cases l with ⟨v, -, -, e, -⟩ | ⟨-, e⟩
  · exfalso
    rw [← e] at h
    have h3 := itoa_mem v b h
    omega
  · exact e
/-- A text that holds a letter counts its bytes. -/
theorem textC_let {t : ByteArray} {b : UInt8} (h : b ∈ t.data.toList) (hb : ¬ (48 ≤ b.toNat ∧ b.toNat ≤ 57)) (h2 : b.toNat ≠ 45) : Ia.textC t = t.size := by
  unfold Ia.textC
  rw [wp_end h hb h2]
  rfl
def tenI : Ia.It := ⟨1, ⟨#[97, 98, 99, 100, 101, 102, 103, 104, 105, 106]⟩, []⟩
theorem ten_right : Ia.RightP tenI := .inl ⟨rfl, by decide, rfl⟩
theorem ten_cost (k : ByteArray) : costN k tenI = 58 + k.size := by
  unfold costN
  rw [if_pos (show tenI.k = 1 from rfl), textC_let (b := 97) (by decide) (by decide) (by decide)]
  show 48 + k.size + 10 = _
  omega
theorem end_none {m : Md} (h : m.S = []) (k : ByteArray) (now : Int) : endM k now m = m := by
  unfold endM endsM
  rw [h]
  rfl
/-- Put of a new key, where there is room. -/
theorem put_room {m : Md} (hS : m.S = []) (hK : m.K.Nodup) {k : ByteArray} (hk : k ∉ m.K) (hz : k.size ≤ 512) (i : Ia.It) (now : Int) (hr : (sumB m.f m.K + costN k i : Int) ≤ m.b) : putM k i false now true m = { m with K := m.K ++ [k], f := updF m.f k i, ev := m.ev ++ [(1, k)] } := by
  unfold putM
  rw [if_neg (by rintro (h | h); omega; cases h), end_none hS, if_neg (by omega)]
  have hs : setM k i false m = { m with K := m.K ++ [k], f := updF m.f k i, ev := m.ev ++ [(1, k)] } := by
    unfold setM
    rw [touchK_permNo hk, hS]
    rfl
  rw [hs]
  refine evF_stop (.inl ?_) _
  show ((sumB (updF m.f k i) (m.K ++ [k]) : Nat) : Int) ≤ m.b
  rw [sumB_app, sumB_updNo hk, sumB_cons, updF_same, show sumB (updF m.f k i) [] = 0 from rfl]
  omega
theorem sumB_ten {f : ByteArray → Ia.It} : ∀ {K : List ByteArray}, (∀ k ∈ K, f k = tenI ∧ k.size = 1) → sumB f K = 59 * K.length
  | [], _ => rfl
  | k :: K, h => by
    have h1 := h k (List.mem_cons_self ..)
    rw [sumB_cons, sumB_ten fun x hx => h x (List.mem_cons_of_mem _ hx), h1.1, ten_cost, h1.2, List.length_cons]
    omega
theorem mem2 {P : ByteArray → Prop} {a b : ByteArray} (ha : P a) (hb : P b) : ∀ k ∈ [a, b], P k := fun k hk => by
  rcases List.mem_cons.1 hk with rfl | hk
  · exact ha
  · rw [List.mem_singleton.1 hk]; exact hb
theorem mem3 {P : ByteArray → Prop} {a b c : ByteArray} (ha : P a) (hb : P b) (hc : P c) : ∀ k ∈ [a, b, c], P k := fun k hk => by
  rcases List.mem_cons.1 hk with rfl | hk
  · exact ha
  · exact mem2 hb hc k hk
def kA : ByteArray := ⟨#[97]⟩
def kB : ByteArray := ⟨#[98]⟩
def kC : ByteArray := ⟨#[99]⟩
def al1 : Md := ⟨[kA], updF (newM 120).f kA tenI, [], 120, [(1, kA)]⟩
def al2 : Md := ⟨[kA, kB], updF al1.f kB tenI, [], 120, [(1, kA), (1, kB)]⟩
def al3 : Md := ⟨[kB, kC], updF al2.f kC tenI, [], 120, [(1, kA), (1, kB), (1, kC), (4, kA)]⟩
theorem al_1 : putM kA tenI false 0 true (newM 120) = al1 := by
  rw [put_room rfl List.nodup_nil (by simp [newM]) (by decide)]
  · rfl
  · rw [ten_cost]; decide
theorem nBA : kB ∉ [kA] := fun h => by have := List.mem_singleton.1 h; revert this; decide
theorem nCAB : kC ∉ [kA, kB] := fun h => by
  rcases List.mem_cons.1 h with h | h
  · revert h; decide
  · have := List.mem_singleton.1 h; revert this; decide
theorem al_sum1 : sumB al1.f al1.K = 59 := sumB_ten (K := [kA]) fun k hk => by rw [List.mem_singleton.1 hk]; exact ⟨rfl, rfl⟩
theorem al_2 : putM kB tenI false 0 true al1 = al2 := by
  rw [put_room rfl (by decide) nBA (by decide)]
  · rfl
  · rw [ten_cost, al_sum1]; decide
theorem al_sum2 : sumB al2.f al2.K = 118 := sumB_ten (K := [kA, kB]) (mem2 ⟨rfl, rfl⟩ ⟨rfl, rfl⟩)
theorem al_3 : putM kC tenI false 0 true al2 = al3 := by
  unfold putM
  rw [if_neg (by rintro (h | h); revert h; decide; cases h), end_none rfl, if_neg (by rw [ten_cost]; decide)]
  have hs : setM kC tenI false al2 = ⟨[kA, kB, kC], updF al2.f kC tenI, [], 120, [(1, kA), (1, kB), (1, kC)]⟩ := rfl
  rw [hs]
  have e3 : sumB (updF al2.f kC tenI) [kA, kB, kC] = 177 := sumB_ten (K := [kA, kB, kC]) (mem3 ⟨rfl, rfl⟩ ⟨rfl, rfl⟩ ⟨rfl, rfl⟩)
  rw [evM_step (x := kA) (y := kB) (r := [kC]) (by show [kA, kB, kC].Nodup; decide) rfl (by show (120 : Int) < ((sumB (updF al2.f kC tenI) [kA, kB, kC] : Nat) : Int); rw [e3]; decide)]
  have hl : loseM kA 4 ⟨[kA, kB, kC], updF al2.f kC tenI, [], 120, [(1, kA), (1, kB), (1, kC)]⟩ = al3 := rfl
  rw [hl]
  refine evF_stop (.inl ?_) _
  have e4 : sumB (updF al2.f kC tenI) [kB, kC] = 118 := sumB_ten (K := [kB, kC]) (mem2 ⟨rfl, rfl⟩ ⟨rfl, rfl⟩)
  show ((sumB (updF al2.f kC tenI) [kB, kC] : Nat) : Int) ≤ 120
  rw [e4]; decide
theorem al_sum3 : sumB al3.f al3.K = 118 := sumB_ten (K := [kB, kC]) (mem2 ⟨rfl, rfl⟩ ⟨rfl, rfl⟩)
theorem put_ok (m : Md) (k : ByteArray) (hz : k.size ≤ 512) (i : Ia.It) (hb : (costN k i : Int) ≤ m.b) : putN k i true m = 0 := by
  unfold putN
  rw [if_neg (by rintro (h | h); omega; cases h), if_neg (by omega)]
theorem Ok.al1 : Ok al1 := by rw [← al_1]; exact (Ok.new 120).putM kA tenI false 0 true fun _ => ten_right
theorem Ok.al2 : Ok al2 := by rw [← al_2]; exact Ok.al1.putM kB tenI false 0 true fun _ => ten_right
theorem Ok.al3 : Ok al3 := by rw [← al_3]; exact Ok.al2.putM kC tenI false 0 true fun _ => ten_right
section
variable {o w w' wb : World} {l : List Th} {T : Nat} {m : Md}
set_option maxHeartbeats 4000000 in
theorem ten_calls (w : World) : Calls Tryd.prog 7 #[] w fun e w' => e = .returned (itV none 0 tenI) ∧ Below w.heap.size w w' := by
  go_enter Tryd.func7, Tryd.ntmps7
  go_wp2_with fail
  exact bodyPost_ret (v := itV none 0 tenI) (by simp [results, Tryd.results7, go_sem, itV, tenI]) rfl ⟨rfl, Sp.bbox _⟩
/-- A text's item lies nowhere. -/
theorem item_free (h : Hp o w l) (i : Ia.It) (hi : i.l = []) (a : Option Addr) (c : Nat) (hc : c ≤ 9223372036854775807) : Hp o w (roT (itemR a c i) :: l) :=
  ro_new h _ fun R => ⟨by rw [hi]; exact Nat.zero_le _, hc, fun hp => by rw [hi] at hp; exact absurd hp (by decide)⟩
/-- The table of a Store: how many keys. -/
theorem store_len (h : Hp o w (storeT T m :: l)) : ∃ E, w.cell? ⟨T, 0, none⟩ = some (.pointer (some ⟨E, 0, none⟩)) ∧ ∀ wb, Below w.heap.size w wb →
    Calls Tryd.prog 11 #[.pointer (some ⟨E, 0, none⟩)] wb fun e w' => e = .returned (.int .i64 m.K.length) ∧ ∃ n, w' = wb.drewN n := by
  obtain ⟨E, U, X, rv, P, f, ev, gn, hr, h⟩ := store_open2 h
  refine ⟨E, h.cell 0 rfl, fun wb hb => ?_⟩
  have := tab_len (h.pull 1 rfl) hb
  rw [show P.length = m.K.length from hr.len] at this
  exact this
end
end Go.Proofs.YtmakmaambjgcnaaDoor.Sa
/- Package store: the statements' alive call. Condition: the library's variables hold what start-up lays. -/
namespace Go.Proofs.YtmakmaambjgcnaaDoor.Sa
set_option linter.unusedVariables false
set_option linter.unusedSimpArgs false
open Go.ChangeShapes Go.WideShapes Go.ChangeAt Go.RowKit
open Sp (Th Hp Stays All Ro roT rowT cellsT exT puT star)
section
variable {o w w' wb : World} {l : List Th} {T : Nat} {m : Md}
/-- Put of ten, told as the model has it. -/
theorem put_ten (h : Hp o w (storeT T m :: l)) (hw : Below w.heap.size w wb) (hok : Ok m) (hc : Ctx o) (k : ByteArray) (hk : k.size ≤ 1000) (now : Int) (hn : m.K.length ≤ 300) (he : m.ev.length ≤ 10000) :
    Calls Tryd.prog 6 #[.pointer (some ⟨T, 0, none⟩), .string k, itV none 0 tenI, .bool false, .int .i64 now] wb fun e w' => e = .returned (.int .i64 (putN k tenI true m)) ∧ Hp o w' (storeT T (putM k tenI false now true m) :: l) :=
  put_calls (item_free (h.bel hw) tenI rfl none 0 (by decide)) (Below.refl _ _) hok hc k hk (by decide) false now true ⟨fun _ => ten_right, fun _ => rfl⟩ hn he
theorem eqE (w : World) (a b : Int) (x y : ByteArray) : (binOp .eql 37 (.agg #[.int .i64 a, .string x]) (.agg #[.int .i64 b, .string y])).run Tryd.prog w = .ok (.bool ((a == b) && (x.toList == y.toList))) w := by
  have hS : Tryd.prog.underlying 37 = some (.struct (Tryd.prog.fieldsOf 37)) := by kernel_rfl
  have hp : Tryd.prog.stoodInHeld 37 = false := by kernel_rfl
  rw [run_eql_struct, show (10000 : Nat) = 9999 + 1 from rfl, run_equalIn_agg w 9999 37 _ _ hS hp]
  have u1 : Tryd.prog.underlying 9 = some .string := by kernel_rfl
  have u2 : Tryd.prog.underlying 3 = some (.int .i64) := by kernel_rfl
  have uM := Tryd.underlying37
  simp only [Program.fieldsOf, uM]
  go_simp
  by_cases h1 : a = b <;> by_cases h2 : x.toList = y.toList <;> simp [h1, h2]
set_option maxHeartbeats 8000000 in
set_option maxRecDepth 100000 in
theorem storeAlive (w : World) (hc : Ctx w) : Calls Tryd.prog 4 #[] w fun e w' => e = .returned (.bool true) ∧ Below w.heap.size w w' := by
  have HN := Lib.hid (new_calls (Hp.nil (Below.refl w.heap.size w)) (Below.refl _ _) 120)
  have HTn := Lib.hid ten_calls
  go_enter Tryd.func4, Tryd.ntmps4
  go_wp2_with fail
  refine HN.out.mono ?_; rintro en w1 ⟨T, rfl, h1⟩
  have H1 := Lib.hid h1
  unfold ptr
  clear h1 HN
  go_wp2_with fail
  refine (HTn.out _).mono ?_; rintro en w2 ⟨rfl, hb⟩
  have HP := Lib.hid (put_ten H1.out hb (Ok.new 120) hc kA (by decide) 0 (by decide) (by decide))
  rw [al_1, put_ok (newM 120) kA (by decide) tenI (by rw [ten_cost]; decide)] at HP
  clear hb H1
  go_wp2_with fail
  refine HP.out.mono ?_; rintro en w3 ⟨rfl, h3⟩
  have H3 := Lib.hid h3
  clear h3 HP
  go_wp2_with fail
  refine (HTn.out _).mono ?_; rintro en w4 ⟨rfl, hb⟩
  have HP := Lib.hid (put_ten H3.out hb Ok.al1 hc kB (by decide) 0 (by decide) (by decide))
  rw [al_2, put_ok al1 kB (by decide) tenI (by rw [ten_cost]; decide)] at HP
  clear hb H3
  go_wp2_with fail
  refine HP.out.mono ?_; rintro en w5 ⟨rfl, h5⟩
  have H5 := Lib.hid h5
  clear h5 HP
  go_wp2_with fail
  refine (HTn.out _).mono ?_; rintro en w6 ⟨rfl, hb⟩
  have HP := Lib.hid (put_ten H5.out hb Ok.al2 hc kC (by decide) 0 (by decide) (by decide))
  rw [al_3, put_ok al2 kC (by decide) tenI (by rw [ten_cost]; decide)] at HP
  clear hb H5 HTn
  go_wp2_with fail
  refine HP.out.mono ?_; rintro en w7 ⟨rfl, h7⟩
  have HE := Lib.hid (events_calls h7 (Below.refl _ _) Ok.al3)
  unfold ptr at HE
  clear h7 HP
  go_wp2_with fail
  refine HE.out.mono ?_; rintro en w8 ⟨v, rfl, h8⟩
  obtain ⟨ea, ec, rfl, -, hec, hea⟩ := h8.rowForm
  obtain ⟨eb, rfl⟩ := hea (by decide)
  have HG := Lib.hid (get_calls (h8.pull 1 rfl) (Below.refl _ _) (Ok.al3.told) hc kA (by decide) 0 (by decide) (by decide))
  rw [end_none (show (toldM al3).S = [] from rfl)] at HG
  unfold ptr at HG
  rw [show Ca.inK kA (toldM al3).K = false from Ca.inK_false.2 (fun h => by
    rcases List.mem_cons.1 h with h | h
    · revert h; decide
    · have := List.mem_singleton.1 h; revert this; decide)] at HG
  have HGG : Hid (getM kA (toldM al3) = toldM al3) := Lib.hid (by
    unfold getM
    rw [show Ca.inK kA (toldM al3).K = false from Ca.inK_false.2 (fun h => by
      rcases List.mem_cons.1 h with h | h
      · revert h; decide
      · have := List.mem_singleton.1 h; revert this; decide), if_neg (by decide)])
  rw [HGG.out] at HG
  clear h8 HE hea
  go_wp2_with fail
  refine HG.out.mono ?_; rintro en w9 ⟨ga, gc, rfl, h9⟩
  have H9 : Hid (Hp w w9 (storeT T (toldM al3) :: evsT (.slice (some ⟨eb, 0, none⟩) 4 ec) al3.ev :: [])) := Lib.hid h9.drop
  clear h9 HG
  rw [show al3.ev.length = 4 from rfl]
  have H10 := Lib.hid fun O => H9.out.bel (Sp.bbox (w := w9) O)
  have he6 := fun O => ((H10.out O).pull 1 rfl).rowCell (j := 6) (by decide)
  have he7 := fun O => ((H10.out O).pull 1 rfl).rowCell (j := 7) (by decide)
  rw [show (cellsE al3.ev)[6]? = some (.int .i64 4) from rfl] at he6
  rw [show (cellsE al3.ev)[7]? = some (.string ⟨#[97]⟩) from rfl] at he7
  obtain ⟨E, c0, hlen⟩ := store_len H9.out
  have c0a := fun O => ((Sp.bbox (w := w9) O).cell (p := ⟨T, 0, none⟩) (World.block_lt_of_cell? w9 _ c0)).trans c0
  have HL := Lib.hid hlen
  have HBy := Lib.hid fun W (hW : Below w9.heap.size w9 W) => bytes_calls H9.out hW
  have hsum : sumB (toldM al3).f (toldM al3).K = 118 := al_sum3
  rw [hsum] at HBy
  unfold ptr at HBy
  have HL : Hid (∀ wb, Below w9.heap.size w9 wb → Calls Tryd.prog 11 #[.pointer (some ⟨E, 0, none⟩)] wb fun e w' => e = .returned (.int .i64 2) ∧ ∃ n, w' = wb.drewN n) := HL
  have HBy : Hid (∀ W, Below w9.heap.size w9 W → Calls Tryd.prog 12 #[.pointer (some ⟨T, 0, none⟩)] W fun e w' => e = .returned (.int .i64 118) ∧ W = w') := HBy
  have heq := eqE
  unfold itV
  have HBel := Lib.hid H9.out.below
  clear hlen hsum c0 H10
  go_wp2_with fail
  refine (HL.out _ (Sp.bbox _)).mono ?_; rintro en w10 ⟨rfl, n, rfl⟩
  go_wp2_with fail
  refine (HBy.out _ ((Sp.bbox _).trans (Ta.drewN_below _ n |>.mono (Sp.bbox _).size))).mono ?_; rintro en w11 ⟨rfl, rfl⟩
  go_wp2_with fail
  go_ret
  exact ⟨rfl, HBel.out.trans (((Sp.bbox (w := w9) _).trans ((Ta.drewN_below _ n).mono (Sp.bbox _).size)).mono HBel.out.size)⟩
end
end Go.Proofs.YtmakmaambjgcnaaDoor.Sa
/- StoreNames. Condition: the library's variables hold what start-up lays. -/
namespace Go.Proofs.YtmakmaambjgcnaaDoor.Sa
set_option linter.unusedVariables false
set_option linter.unusedSimpArgs false
open Go.ChangeShapes Go.WideShapes Go.ChangeAt Go.RowKit
open Sp (Th Hp Stays All Ro roT rowT cellsT exT puT star)
def nineI : Ia.It := ⟨1, ⟨#[49, 50, 51, 52, 53, 54, 55, 56, 57]⟩, []⟩
theorem nine_right : Ia.RightP nineI := .inl ⟨rfl, by decide, rfl⟩
theorem nine_cost (k : ByteArray) : costN k nineI = 56 + k.size := by
  unfold costN
  rw [if_pos (show nineI.k = 1 from rfl)]
  have h : Lib.decDigits 123456789 = [49, 50, 51, 52, 53, 54, 55, 56, 57] := Num.numeral_of_dv (by decide) rfl
  have h2 := Num.wp_itoa 123456789 (by omega) (by omega)
  rw [show (123456789 : Int) = ((123456789 : Nat) : Int) from rfl, Lib.itoa_nonneg, h] at h2
  have h3 : Ia.textC nineI.t = 8 := by
    unfold Ia.textC
    rw [show nineI.t.data.toList = [49, 50, 51, 52, 53, 54, 55, 56, 57] from rfl, h2]
    rfl
  rw [h3]
  omega
theorem zero_not : ¬ Ia.RightP zeroI := by
  rintro (⟨h, -⟩ | ⟨h, -⟩)
  · exact absurd h (by decide)
  · exact absurd h (by decide)
def nm1 : Md := ⟨[kA], updF (newM 58).f kA nineI, [], 58, [(1, kA)]⟩
theorem nm_put : putM kA nineI false 0 true (newM 58) = nm1 := by
  rw [put_room rfl List.nodup_nil (by simp [newM]) (by decide)]
  · rfl
  · rw [nine_cost]; decide
theorem put_big (m : Md) (hS : m.S = []) (k : ByteArray) (hz : k.size ≤ 512) (i : Ia.It) (now : Int) (hb : m.b < (costN k i : Int)) : putN k i true m = 121 ∧ putM k i false now true m = m := by
  unfold putN putM
  rw [if_neg (by rintro (h | h); omega; cases h), if_pos hb, if_neg (by rintro (h | h); omega; cases h), if_pos hb]
  exact ⟨rfl, end_none hS k now⟩
theorem put_wrong (m : Md) (hS : m.S = []) (k : ByteArray) (i : Ia.It) (now : Int) : putN k i false m = 31 ∧ putM k i false now false m = m := by
  unfold putN putM
  rw [if_pos (.inr rfl), if_pos (.inr rfl)]
  exact ⟨rfl, end_none hS k now⟩
set_option maxHeartbeats 8000000 in
set_option maxRecDepth 100000 in
theorem storeNames (w : World) (hc : Ctx w) : Calls Tryd.prog 3 #[] w fun e w' => e = .returned (.bool true) ∧ Below w.heap.size w w' := by
  have HA := Lib.hid (storeAlive w hc)
  have HTn := Lib.hid ten_calls
  have hu58 := put_big (newM 58) rfl kA (by decide) tenI 0 (by rw [ten_cost]; decide)
  have huz := put_wrong (newM 58) rfl ⟨#[107]⟩ zeroI 0
  have hu0 := put_big (newM (-5)) rfl ⟨#[]⟩ (by decide) tenI 0 (by rw [ten_cost]; decide)
  have HU1 := Lib.hid hu58
  have HU2 := Lib.hid huz
  have HU3 := Lib.hid hu0
  clear hu58 huz hu0
  go_enter Tryd.func3, Tryd.ntmps3
  go_wp2_with fail
  refine HA.out.mono ?_; rintro en w0 ⟨rfl, hb0⟩
  have HN := Lib.hid (new_calls (Hp.nil hb0) (Below.refl _ _) 58)
  clear hb0 HA
  go_wp2_with fail
  refine HN.out.mono ?_; rintro en w1 ⟨T, rfl, h1⟩
  have H1 := Lib.hid h1
  unfold ptr
  clear h1 HN
  go_wp2_with fail
  refine (HTn.out _).mono ?_; rintro en w2 ⟨rfl, hb⟩
  have HP := Lib.hid (put_ten H1.out hb (Ok.new 58) hc kA (by decide) 0 (by decide) (by decide))
  rw [HU1.out.1, HU1.out.2] at HP
  clear hb H1
  go_wp2_with fail
  refine HP.out.mono ?_; rintro en w3 ⟨rfl, h3⟩
  have HP2 := Lib.hid (put_calls (item_free h3 zeroI rfl none 0 (by decide)) (Below.refl _ _) (Ok.new 58) hc ⟨#[107]⟩ (by decide) (by decide) false 0 false ⟨fun h => (by cases h), fun h => absurd h zero_not⟩ (by decide) (by decide))
  rw [HU2.out.1, HU2.out.2] at HP2
  unfold ptr itV at HP2
  clear h3 HP
  go_wp2_with fail
  refine HP2.out.mono ?_; rintro en w4 ⟨rfl, h4⟩
  have HP3 := Lib.hid (put_calls (item_free h4 nineI rfl none 0 (by decide)) (Below.refl _ _) (Ok.new 58) hc kA (by decide) (by decide) false 0 true ⟨fun _ => nine_right, fun _ => rfl⟩ (by decide) (by decide))
  rw [nm_put, put_ok (newM 58) kA (by decide) nineI (by rw [nine_cost]; decide)] at HP3
  unfold ptr itV at HP3
  clear h4 HP2
  go_wp2_with fail
  refine HP3.out.mono ?_; rintro en w5 ⟨rfl, h5⟩
  have hok5 : Ok nm1 := by rw [← nm_put]; exact (Ok.new 58).putM kA nineI false 0 true fun _ => nine_right
  have HO5 := Lib.hid hok5
  have HN := Lib.hid (new_calls h5 (Below.refl _ _) (-5))
  clear h5 HP3 hok5
  go_wp2_with fail
  refine HN.out.mono ?_; rintro en w6 ⟨T2, rfl, h6⟩
  have H6 := Lib.hid h6
  unfold ptr
  clear h6 HN
  go_wp2_with fail
  refine (HTn.out _).mono ?_; rintro en w7 ⟨rfl, hb⟩
  have HP := Lib.hid (put_ten H6.out hb (Ok.new (-5)) hc ⟨#[]⟩ (by decide) 0 (by decide) (by decide))
  rw [HU3.out.1, HU3.out.2] at HP
  clear hb H6 HTn
  go_wp2_with fail
  refine HP.out.mono ?_; rintro en w8 ⟨rfl, h8⟩
  have HT1 := Lib.hid (ttl_calls (h8.pull 1 rfl) (Below.refl _ _) HO5.out hc ⟨#[122, 122]⟩ (by decide) 0 (by decide) (by decide) (by decide) (by decide))
  rw [end_none (show nm1.S = [] from rfl)] at HT1
  unfold ptr at HT1
  rw [show ttlN ⟨#[122, 122]⟩ 0 nm1 = -2 by
    unfold ttlN
    rw [show Ca.inK ⟨#[122, 122]⟩ nm1.K = false by decide, if_neg (by decide)]] at HT1
  clear h8 HP
  go_wp2_with fail
  refine HT1.out.mono ?_; rintro en w9 ⟨rfl, h9⟩
  have HT2 := Lib.hid (ttl_calls h9 (Below.refl _ _) HO5.out hc kA (by decide) 0 (by decide) (by decide) (by decide) (by decide))
  rw [end_none (show nm1.S = [] from rfl)] at HT2
  unfold ptr at HT2
  rw [show ttlN kA 0 nm1 = -1 by
    unfold ttlN
    rw [show Ca.inK kA nm1.K = true by decide, if_pos rfl]
    rfl] at HT2
  clear h9 HT1
  go_wp2_with fail
  refine HT2.out.mono ?_; rintro en w10 ⟨rfl, h10⟩
  have HB := Lib.hid h10.below
  clear h10 HT2
  go_wp2_with fail
  go_ret
  exact ⟨rfl, HB.out⟩
end Go.Proofs.YtmakmaambjgcnaaDoor.Sa
