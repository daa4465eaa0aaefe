/- Package store: the chapter's example, plain; ten; the table of a Store (Len, Keys). No condition. -/
import Derived.Test.YtmakmaambjgcnaaGreatDoorSaD
import Derived.Laws.StructEq
import Derived.Test.YtmakmaambjgcnaaGreatDoorIaD
import Derived.Test.YtmakmaambjgcnaaGreatDoorIc6
namespace Go.Proofs.YtmakmaambjgcnaaGreatDoor.Sa
set_option linter.unusedVariables false
set_option linter.unusedSimpArgs false
open Go.ChangeShapes Go.WideShapes Go.ChangeAt Go.RowKit
open Sp (Th Hp Stays All Ro roT rowT cellsT exT puT star)
theorem dv_digs : ∀ (l : List UInt8) (acc u : Nat), Num.dv acc l = some u → ∀ c ∈ l, 48 ≤ c.toNat ∧ c.toNat ≤ 57
  | [], _, _, _, c, h => by cases h
  | d :: r, acc, u, h, c, hc => by
    simp only [Num.dv] at h
    split at h
    · rename_i hd
      rcases List.mem_cons.1 hc with rfl | hc
      · exact hd
      · exact dv_digs r _ u h c hc
    · cases h
theorem itoa_mem (v : Int) (b : UInt8) (h : b ∈ Lib.itoa v) : (48 ≤ b.toNat ∧ b.toNat ≤ 57) ∨ b.toNat = 45 := by
  by_cases hv : 0 ≤ v
  · obtain ⟨u, rfl⟩ := Int.eq_ofNat_of_zero_le hv
    rw [Lib.itoa_nonneg] at h
    exact .inl (dv_digs _ 0 u (Num.dv_decDigits u) b h)
  · obtain ⟨u, hu⟩ : ∃ u : Nat, v = -(u : Int) := ⟨(-v).toNat, by omega⟩
    subst hu
    rw [Lib.itoa_neg u (by omega)] at h
    rcases List.mem_cons.1 h with rfl | h
    · exact .inr rfl
    · exact .inl (dv_digs _ 0 u (Num.dv_decDigits u) b h)
theorem wp_end {l : List UInt8} {b : UInt8} (h : b ∈ l) (hb : ¬ (48 ≤ b.toNat ∧ b.toNat ≤ 57)) (h2 : b.toNat ≠ 45) : Num.wp l = (0, 11) := by
  rcases Num.wp_cases l with ⟨v, -, -, e, -⟩ | ⟨-, e⟩
  · exfalso
    rw [← e] at h
    have h3 := itoa_mem v b h
    omega
  · exact e
/-- A text that holds a letter counts its bytes. -/
theorem textC_let {t : ByteArray} {b : UInt8} (h : b ∈ t.data.toList) (hb : ¬ (48 ≤ b.toNat ∧ b.toNat ≤ 57)) (h2 : b.toNat ≠ 45) : Ia.textC t = t.size := by
  unfold Ia.textC
  rw [wp_end h hb h2]
  rfl
def tenI : Ia.It := ⟨1, ⟨#[97, 98, 99, 100, 101, 102, 103, 104, 105, 106]⟩, []⟩
theorem ten_right : Ia.RightP tenI := .inl ⟨rfl, by decide, rfl⟩
theorem ten_cost (k : ByteArray) : costN k tenI = 58 + k.size := by
  unfold costN
  rw [if_pos (show tenI.k = 1 from rfl), textC_let (b := 97) (by decide) (by decide) (by decide)]
  show 48 + k.size + 10 = _
  omega
theorem end_none {m : Md} (h : m.S = []) (k : ByteArray) (now : Int) : endM k now m = m := by
  unfold endM endsM
  rw [h]
  rfl
/-- Put of a new key, where there is room. -/
theorem put_room {m : Md} (hS : m.S = []) (hK : m.K.Nodup) {k : ByteArray} (hk : k ∉ m.K) (hz : k.size ≤ 512) (i : Ia.It) (now : Int) (hr : (sumB m.f m.K + costN k i : Int) ≤ m.b) : putM k i false now true m = { m with K := m.K ++ [k], f := updF m.f k i, ev := m.ev ++ [(1, k)] } := by
  unfold putM
  rw [if_neg (by rintro (h | h); omega; cases h), end_none hS, if_neg (by omega)]
  have hs : setM k i false m = { m with K := m.K ++ [k], f := updF m.f k i, ev := m.ev ++ [(1, k)] } := by
    unfold setM
    rw [touchK_permNo hk, hS]
    rfl
  rw [hs]
  refine evF_stop (.inl ?_) _
  show ((sumB (updF m.f k i) (m.K ++ [k]) : Nat) : Int) ≤ m.b
  rw [sumB_app, sumB_updNo hk, sumB_cons, updF_same, show sumB (updF m.f k i) [] = 0 from rfl]
  omega
theorem sumB_ten {f : ByteArray → Ia.It} : ∀ {K : List ByteArray}, (∀ k ∈ K, f k = tenI ∧ k.size = 1) → sumB f K = 59 * K.length
  | [], _ => rfl
  | k :: K, h => by
    have h1 := h k (List.mem_cons_self ..)
    rw [sumB_cons, sumB_ten fun x hx => h x (List.mem_cons_of_mem _ hx), h1.1, ten_cost, h1.2, List.length_cons]
    omega
theorem mem2 {P : ByteArray → Prop} {a b : ByteArray} (ha : P a) (hb : P b) : ∀ k ∈ [a, b], P k := fun k hk => by
  rcases List.mem_cons.1 hk with rfl | hk
  · exact ha
  · rw [List.mem_singleton.1 hk]; exact hb
theorem mem3 {P : ByteArray → Prop} {a b c : ByteArray} (ha : P a) (hb : P b) (hc : P c) : ∀ k ∈ [a, b, c], P k := fun k hk => by
  rcases List.mem_cons.1 hk with rfl | hk
  · exact ha
  · exact mem2 hb hc k hk
def kA : ByteArray := ⟨#[97]⟩
def kB : ByteArray := ⟨#[98]⟩
def kC : ByteArray := ⟨#[99]⟩
def al1 : Md := ⟨[kA], updF (newM 120).f kA tenI, [], 120, [(1, kA)]⟩
def al2 : Md := ⟨[kA, kB], updF al1.f kB tenI, [], 120, [(1, kA), (1, kB)]⟩
def al3 : Md := ⟨[kB, kC], updF al2.f kC tenI, [], 120, [(1, kA), (1, kB), (1, kC), (4, kA)]⟩
theorem al_1 : putM kA tenI false 0 true (newM 120) = al1 := by
  rw [put_room rfl List.nodup_nil (by simp [newM]) (by decide)]
  · rfl
  · rw [ten_cost]; decide
theorem nBA : kB ∉ [kA] := fun h => by have := List.mem_singleton.1 h; revert this; decide
theorem nCAB : kC ∉ [kA, kB] := fun h => by
  rcases List.mem_cons.1 h with h | h
  · revert h; decide
  · have := List.mem_singleton.1 h; revert this; decide
theorem al_sum1 : sumB al1.f al1.K = 59 := sumB_ten (K := [kA]) fun k hk => by rw [List.mem_singleton.1 hk]; exact ⟨rfl, rfl⟩
theorem al_2 : putM kB tenI false 0 true al1 = al2 := by
  rw [put_room rfl (by decide) nBA (by decide)]
  · rfl
  · rw [ten_cost, al_sum1]; decide
theorem al_sum2 : sumB al2.f al2.K = 118 := sumB_ten (K := [kA, kB]) (mem2 ⟨rfl, rfl⟩ ⟨rfl, rfl⟩)
theorem al_3 : putM kC tenI false 0 true al2 = al3 := by
  unfold putM
  rw [if_neg (by rintro (h | h); revert h; decide; cases h), end_none rfl, if_neg (by rw [ten_cost]; decide)]
  have hs : setM kC tenI false al2 = ⟨[kA, kB, kC], updF al2.f kC tenI, [], 120, [(1, kA), (1, kB), (1, kC)]⟩ := rfl
  rw [hs]
  have e3 : sumB (updF al2.f kC tenI) [kA, kB, kC] = 177 := sumB_ten (K := [kA, kB, kC]) (mem3 ⟨rfl, rfl⟩ ⟨rfl, rfl⟩ ⟨rfl, rfl⟩)
  rw [evM_step (x := kA) (y := kB) (r := [kC]) (by show [kA, kB, kC].Nodup; decide) rfl (by show (120 : Int) < ((sumB (updF al2.f kC tenI) [kA, kB, kC] : Nat) : Int); rw [e3]; decide)]
  have hl : loseM kA 4 ⟨[kA, kB, kC], updF al2.f kC tenI, [], 120, [(1, kA), (1, kB), (1, kC)]⟩ = al3 := rfl
  rw [hl]
  refine evF_stop (.inl ?_) _
  have e4 : sumB (updF al2.f kC tenI) [kB, kC] = 118 := sumB_ten (K := [kB, kC]) (mem2 ⟨rfl, rfl⟩ ⟨rfl, rfl⟩)
  show ((sumB (updF al2.f kC tenI) [kB, kC] : Nat) : Int) ≤ 120
  rw [e4]; decide
theorem al_sum3 : sumB al3.f al3.K = 118 := sumB_ten (K := [kB, kC]) (mem2 ⟨rfl, rfl⟩ ⟨rfl, rfl⟩)
theorem put_ok (m : Md) (k : ByteArray) (hz : k.size ≤ 512) (i : Ia.It) (hb : (costN k i : Int) ≤ m.b) : putN k i true m = 0 := by
  unfold putN
  rw [if_neg (by rintro (h | h); omega; cases h), if_neg (by omega)]
theorem Ok.al1 : Ok al1 := by rw [← al_1]; exact (Ok.new 120).putM kA tenI false 0 true fun _ => ten_right
theorem Ok.al2 : Ok al2 := by rw [← al_2]; exact Ok.al1.putM kB tenI false 0 true fun _ => ten_right
theorem Ok.al3 : Ok al3 := by rw [← al_3]; exact Ok.al2.putM kC tenI false 0 true fun _ => ten_right
section
variable {o w w' wb : World} {l : List Th} {T : Nat} {m : Md}
set_option maxHeartbeats 4000000 in
theorem ten_calls (w : World) : Calls Tryz.prog 30 #[] w fun e w' => e = .returned (itV none 0 tenI) ∧ Below w.heap.size w w' := by
  go_enter Tryz.func30, Tryz.ntmps30
  go_wp2_with fail
  exact bodyPost_ret (v := itV none 0 tenI) (by simp [results, Tryz.results30, go_sem, itV, tenI]) rfl ⟨rfl, Sp.bbox _⟩
/-- A text's item lies nowhere. -/
theorem item_free (h : Hp o w l) (i : Ia.It) (hi : i.l = []) (a : Option Addr) (c : Nat) (hc : c ≤ 9223372036854775807) : Hp o w (roT (itemR a c i) :: l) :=
  ro_new h _ fun R => ⟨by rw [hi]; exact Nat.zero_le _, hc, fun hp => by rw [hi] at hp; exact absurd hp (by decide)⟩
/-- The table of a Store: how many keys. -/
theorem store_len (h : Hp o w (storeT T m :: l)) : ∃ E, w.cell? ⟨T, 0, none⟩ = some (.pointer (some ⟨E, 0, none⟩)) ∧ ∀ wb, Below w.heap.size w wb →
    Calls Tryz.prog 13 #[.pointer (some ⟨E, 0, none⟩)] wb fun e w' => e = .returned (.int .i64 m.K.length) ∧ ∃ n, w' = wb.drewN n := by
  obtain ⟨E, U, X, rv, P, f, ev, gn, hr, h⟩ := store_open2 h
  refine ⟨E, h.cell 0 rfl, fun wb hb => ?_⟩
  have := tab_len (h.pull 1 rfl) hb
  rw [show P.length = m.K.length from hr.len] at this
  exact this
end
end Go.Proofs.YtmakmaambjgcnaaGreatDoor.Sa
/- Package store: the statements' alive call. Condition: the library's variables hold what start-up lays. -/
namespace Go.Proofs.YtmakmaambjgcnaaGreatDoor.Sa
set_option linter.unusedVariables false
set_option linter.unusedSimpArgs false
open Go.ChangeShapes Go.WideShapes Go.ChangeAt Go.RowKit
open Sp (Th Hp Stays All Ro roT rowT cellsT exT puT star)
section
variable {o w w' wb : World} {l : List Th} {T : Nat} {m : Md}
/-- Put of ten, told as the model has it. -/
theorem put_ten (h : Hp o w (storeT T m :: l)) (hw : Below w.heap.size w wb) (hok : Ok m) (hc : Ctx o) (k : ByteArray) (hk : k.size ≤ 1000) (now : Int) (hn : m.K.length ≤ 300) (he : m.ev.length ≤ 10000) :
    Calls Tryz.prog 25 #[.pointer (some ⟨T, 0, none⟩), .string k, itV none 0 tenI, .bool false, .int .i64 now] wb fun e w' => e = .returned (.int .i64 (putN k tenI true m)) ∧ Hp o w' (storeT T (putM k tenI false now true m) :: l) :=
  put_calls (item_free (h.bel hw) tenI rfl none 0 (by decide)) (Below.refl _ _) hok hc k hk (by decide) false now true ⟨fun _ => ten_right, fun _ => rfl⟩ hn he
theorem eqE (w : World) (a b : Int) (x y : ByteArray) : (binOp .eql 62 (.agg #[.int .i64 a, .string x]) (.agg #[.int .i64 b, .string y])).run Tryz.prog w = .ok (.bool ((a == b) && (x.toList == y.toList))) w := by
  have hS : Tryz.prog.underlying 62 = some (.struct (Tryz.prog.fieldsOf 62)) := by kernel_rfl
  have hp : Tryz.prog.stoodInHeld 62 = false := by kernel_rfl
  rw [run_eql_struct, show (10000 : Nat) = 9999 + 1 from rfl, run_equalIn_agg w 9999 62 _ _ hS hp]
  have u1 : Tryz.prog.underlying 9 = some .string := by kernel_rfl
  have u2 : Tryz.prog.underlying 3 = some (.int .i64) := by kernel_rfl
  have uM := Tryz.underlying62
  simp only [Program.fieldsOf, uM]
  go_simp
  by_cases h1 : a = b <;> by_cases h2 : x.toList = y.toList <;> simp [h1, h2]
set_option maxHeartbeats 8000000 in
set_option maxRecDepth 100000 in
theorem storeAlive (w : World) (hc : Ctx w) : Calls Tryz.prog 8 #[] w fun e w' => e = .returned (.bool true) ∧ Below w.heap.size w w' := by
  have HN := Lib.hid (new_calls (Hp.nil (Below.refl w.heap.size w)) (Below.refl _ _) 120)
  have HTn := Lib.hid ten_calls
  go_enter Tryz.func8, Tryz.ntmps8
  go_wp2_with fail
  refine HN.out.mono ?_; rintro en w1 ⟨T, rfl, h1⟩
  have H1 := Lib.hid h1
  unfold ptr
  clear h1 HN
  go_wp2_with fail
  refine (HTn.out _).mono ?_; rintro en w2 ⟨rfl, hb⟩
  have HP := Lib.hid (put_ten H1.out hb (Ok.new 120) hc kA (by decide) 0 (by decide) (by decide))
  rw [al_1, put_ok (newM 120) kA (by decide) tenI (by rw [ten_cost]; decide)] at HP
  clear hb H1
  go_wp2_with fail
  refine HP.out.mono ?_; rintro en w3 ⟨rfl, h3⟩
  have H3 := Lib.hid h3
  clear h3 HP
  go_wp2_with fail
  refine (HTn.out _).mono ?_; rintro en w4 ⟨rfl, hb⟩
  have HP := Lib.hid (put_ten H3.out hb Ok.al1 hc kB (by decide) 0 (by decide) (by decide))
  rw [al_2, put_ok al1 kB (by decide) tenI (by rw [ten_cost]; decide)] at HP
  clear hb H3
  go_wp2_with fail
  refine HP.out.mono ?_; rintro en w5 ⟨rfl, h5⟩
  have H5 := Lib.hid h5
  clear h5 HP
  go_wp2_with fail
  refine (HTn.out _).mono ?_; rintro en w6 ⟨rfl, hb⟩
  have HP := Lib.hid (put_ten H5.out hb Ok.al2 hc kC (by decide) 0 (by decide) (by decide))
  rw [al_3, put_ok al2 kC (by decide) tenI (by rw [ten_cost]; decide)] at HP
  clear hb H5 HTn
  go_wp2_with fail
  refine HP.out.mono ?_; rintro en w7 ⟨rfl, h7⟩
  have HE := Lib.hid (events_calls h7 (Below.refl _ _) Ok.al3)
  unfold ptr at HE
  clear h7 HP
  go_wp2_with fail
  refine HE.out.mono ?_; rintro en w8 ⟨v, rfl, h8⟩
  obtain ⟨ea, ec, rfl, -, hec, hea⟩ := h8.rowForm
  obtain ⟨eb, rfl⟩ := hea (by decide)
  have HG := Lib.hid (get_calls (h8.pull 1 rfl) (Below.refl _ _) (Ok.al3.told) hc kA (by decide) 0 (by decide) (by decide))
  rw [end_none (show (toldM al3).S = [] from rfl)] at HG
  unfold ptr at HG
  rw [show Ca.inK kA (toldM al3).K = false from Ca.inK_false.2 (fun h => by
    rcases List.mem_cons.1 h with h | h
    · revert h; decide
    · have := List.mem_singleton.1 h; revert this; decide)] at HG
  have HGG : Hid (getM kA (toldM al3) = toldM al3) := Lib.hid (by
    unfold getM
    rw [show Ca.inK kA (toldM al3).K = false from Ca.inK_false.2 (fun h => by
      rcases List.mem_cons.1 h with h | h
      · revert h; decide
      · have := List.mem_singleton.1 h; revert this; decide), if_neg (by decide)])
  rw [HGG.out] at HG
  clear h8 HE hea
  go_wp2_with fail
  refine HG.out.mono ?_; rintro en w9 ⟨ga, gc, rfl, h9⟩
  have H9 : Hid (Hp w w9 (storeT T (toldM al3) :: evsT (.slice (some ⟨eb, 0, none⟩) 4 ec) al3.ev :: [])) := Lib.hid h9.drop
  clear h9 HG
  rw [show al3.ev.length = 4 from rfl]
  have H10 := Lib.hid fun O => H9.out.bel (Sp.bbox (w := w9) O)
  have he6 := fun O => ((H10.out O).pull 1 rfl).rowCell (j := 6) (by decide)
  have he7 := fun O => ((H10.out O).pull 1 rfl).rowCell (j := 7) (by decide)
  rw [show (cellsE al3.ev)[6]? = some (.int .i64 4) from rfl] at he6
  rw [show (cellsE al3.ev)[7]? = some (.string ⟨#[97]⟩) from rfl] at he7
  obtain ⟨E, c0, hlen⟩ := store_len H9.out
  have c0a := fun O => ((Sp.bbox (w := w9) O).cell (p := ⟨T, 0, none⟩) (World.block_lt_of_cell? w9 _ c0)).trans c0
  have HL := Lib.hid hlen
  have HBy := Lib.hid fun W (hW : Below w9.heap.size w9 W) => bytes_calls H9.out hW
  have hsum : sumB (toldM al3).f (toldM al3).K = 118 := al_sum3
  rw [hsum] at HBy
  unfold ptr at HBy
  have HL : Hid (∀ wb, Below w9.heap.size w9 wb → Calls Tryz.prog 13 #[.pointer (some ⟨E, 0, none⟩)] wb fun e w' => e = .returned (.int .i64 2) ∧ ∃ n, w' = wb.drewN n) := HL
  have HBy : Hid (∀ W, Below w9.heap.size w9 W → Calls Tryz.prog 14 #[.pointer (some ⟨T, 0, none⟩)] W fun e w' => e = .returned (.int .i64 118) ∧ W = w') := HBy
  have heq := eqE
  unfold itV
  have HBel := Lib.hid H9.out.below
  clear hlen hsum c0 H10
  go_wp2_with fail
  refine (HL.out _ (Sp.bbox _)).mono ?_; rintro en w10 ⟨rfl, n, rfl⟩
  go_wp2_with fail
  refine (HBy.out _ ((Sp.bbox _).trans (Ta.drewN_below _ n |>.mono (Sp.bbox _).size))).mono ?_; rintro en w11 ⟨rfl, rfl⟩
  go_wp2_with fail
  go_ret
  exact ⟨rfl, HBel.out.trans (((Sp.bbox (w := w9) _).trans ((Ta.drewN_below _ n).mono (Sp.bbox _).size)).mono HBel.out.size)⟩
end
end Go.Proofs.YtmakmaambjgcnaaGreatDoor.Sa
/- Acts that came in; the statements' great. No condition. -/
namespace Go.Proofs.YtmakmaambjgcnaaGreatDoor.Sa
set_option linter.unusedVariables false
set_option linter.unusedSimpArgs false
open Go.ChangeShapes Go.WideShapes Go.ChangeAt Go.RowKit
open Sp (Th Hp Stays All Ro roT rowT cellsT exT puT star)
/-- An act; where its item's fields lie. -/
structure Ac where
  kd : Int
  n : Int
  k : ByteArray
  i : Ia.It
  a : Option Addr
  c : Nat
  kp : Bool
  wh : Int
  wt : Nat
def cells9 (q : Ac) : List Value := [.int .i64 q.kd, .int .i64 q.n, .string q.k, .int .i64 q.i.k, .string q.i.t, .slice q.a q.i.l.length q.c, .bool q.kp, .int .i64 q.wh, .int .u16 q.wt]
/-- Acts as they lie. -/
def InA (W : World) (a : Option Addr) (l : List Ac) : Prop := 0 < l.length → ∃ b o, a = some ⟨b, o, none⟩ ∧ b < W.heap.size ∧ ∀ i (h : i < l.length), (∀ j (hj : j < 9), W.cell? ⟨b, o + i * 9 + j, none⟩ = some ((cells9 l[i])[j]'(by show j < 9; exact hj))) ∧ Ia.InF W l[i].a l[i].i.l ∧ l[i].i.l.length ≤ l[i].c ∧ l[i].c ≤ 9223372036854775807
theorem InA.below {B : Nat} {w w' : World} {a : Option Addr} {l : List Ac} (h : InA w a l) (hB : w.heap.size ≤ B) (hb : Below B w w') : InA w' a l := fun hp => by
  obtain ⟨b, o, rfl, hlt, hc⟩ := h hp
  refine ⟨b, o, rfl, Nat.lt_of_lt_of_le hlt hb.size, fun i hi => ⟨fun j hj => ?_, (hc i hi).2.1.below hB hb, (hc i hi).2.2⟩⟩
  have e : w'.cell? ⟨b, o + i * 9 + j, none⟩ = w.cell? ⟨b, o + i * 9 + j, none⟩ := hb.cell (p := ⟨b, o + i * 9 + j, none⟩) (Nat.lt_of_lt_of_le hlt hB)
  rw [e]
  exact (hc i hi).1 j hj
/-- The nine cells of an act, one by one. -/
theorem InA.at_ {w : World} {b o : Nat} {l : List Ac} {i : Nat} (hi : i < l.length) (h : ∀ j (hj : j < 9), w.cell? ⟨b, o + i * 9 + j, none⟩ = some ((cells9 l[i])[j]'(by show j < 9; exact hj))) :
    w.cell? ⟨b, o + i * 9, none⟩ = some (.int .i64 l[i].kd) ∧ w.cell? ⟨b, o + i * 9 + 1, none⟩ = some (.int .i64 l[i].n) ∧ w.cell? ⟨b, o + i * 9 + 2, none⟩ = some (.string l[i].k) ∧ w.cell? ⟨b, o + i * 9 + 3, none⟩ = some (.int .i64 l[i].i.k) ∧ w.cell? ⟨b, o + i * 9 + 4, none⟩ = some (.string l[i].i.t) ∧ w.cell? ⟨b, o + i * 9 + 5, none⟩ = some (.slice l[i].a l[i].i.l.length l[i].c) ∧ w.cell? ⟨b, o + i * 9 + 6, none⟩ = some (.bool l[i].kp) ∧ w.cell? ⟨b, o + i * 9 + 7, none⟩ = some (.int .i64 l[i].wh) ∧ w.cell? ⟨b, o + i * 9 + 8, none⟩ = some (.int .u16 l[i].wt) :=
  ⟨h 0 (by decide), h 1 (by decide), h 2 (by decide), h 3 (by decide), h 4 (by decide), h 5 (by decide), h 6 (by decide), h 7 (by decide), h 8 (by decide)⟩
/-- An act that is looked at. -/
def okA1 (q : Ac) : Prop := q.k.size ≤ 600 ∧ q.i.t.size ≤ 5000 ∧ q.i.l.length ≤ 20 ∧ ∀ j (h : j < q.i.l.length), q.i.l[j].1.size ≤ 600 ∧ q.i.l[j].2.size ≤ 5000
def okA (l : List Ac) : Prop := l.length ≤ 80 ∧ ∀ i (h : i < l.length), okA1 l[i]
set_option maxHeartbeats 8000000 in
set_option maxRecDepth 100000 in
theorem great_calls (w : World) (a : Option Addr) (c n : Nat) (l : List Ac) (hn : n = l.length) (hI : InA w a l) :
    Calls Tryz.prog 9 #[.slice a n c] w fun e w' => (e = .returned (.bool true) ∨ (e = .returned (.bool false) ∧ okA l)) ∧ Below w.heap.size w w' := by
  subst hn
  have HI := Lib.hid hI
  clear hI
  go_enter Tryz.func9, Tryz.ntmps9
  by_cases hl : 80 < l.length
  · have hlc : (80 : Int) < (l.length : Int) := by omega
    go_wp2_with fail
    go_ret
    exact ⟨.inl rfl, Below.refl _ _⟩
  · have hlc : ¬ (80 : Int) < (l.length : Int) := by omega
    go_wp2_with fail
    go_loopg [4, 6, 12, 13, 14, 15, 16, 17, 18, 19, 20, 21, 22, 23, 24, 25, 26, 27, 28, 29, 30, 31, 32, 33, 34, 35, 36, 37, 38, 39, 40, 41, 42, 43, 44, 45, 46, 47, 48, 49, 50, 51, 52, 53] (l.length + 1) (fun g _ _ vi _ _ _ _ _ _ _ _ _ _ _ _ _ _ _ _ _ _ _ _ _ _ _ _ _ _ _ _ _ _ _ _ _ _ _ _ _ _ _ _ _ wr => ∃ i : Nat, vi = .int .i64 i ∧ i ≤ l.length ∧ l.length - i ≤ g ∧ Hid (∀ j (h : j < l.length), j < i → okA1 l[j]) ∧ Hid (Below w.heap.size w wr))
    case atStart => exact ⟨0, rfl, by omega, by omega, Lib.hid (fun _ _ h => absurd h (Nat.not_lt_zero _)), Lib.hid (Below.refl _ _)⟩
    case round =>
      obtain ⟨i, rfl, hi, hg, HK, HB⟩ := hrel
      by_cases hil : i < l.length
      case neg =>
        have hic : ¬ ((i : Int) < (l.length : Int)) := by omega
        go_wp2_with fail
        go_ret
        exact ⟨.inr ⟨rfl, by omega, fun j hj => HK.out j hj (by omega)⟩, HB.out⟩
      case pos =>
        have hic : (i : Int) < (l.length : Int) := by omega
        obtain ⟨b, o, rfl, hlt, hc⟩ := (HI.out.below (Nat.le_refl _) HB.out) (by omega)
        obtain ⟨hc1, hf, hfc, hcc⟩ := hc i hil
        obtain ⟨c0, c1, c2, c3, c4, c5, c6, c7, c8⟩ := InA.at_ hil hc1
        have HB2 := Lib.hid (fun O => Sp.bstep HB.out (Sp.bbox (w := wr) O))
        have HF := Lib.hid (fun O => hf.below (Nat.le_refl _) (Sp.bbox (w := wr) O))
        have HKn : Hid (okA1 l[i] → ∀ j (h : j < l.length), j < i + 1 → okA1 l[j]) := Lib.hid (fun h1 j h hj => by
          by_cases hji : j = i
          · subst hji; exact h1
          · exact HK.out j h (by omega))
        clear hc hc1 hf hlt
        generalize l[i] = q at *
        obtain ⟨kd, nn, k, it, fa, fc, kp, wh, wt⟩ := q
        simp only at c0 c1 c2 c3 c4 c5 c6 c7 c8 HF hfc hcc
        by_cases h1 : 600 < k.size
        · have h1c : (600 : Int) < (k.size : Int) := by omega
          go_wp2_with fail
          go_ret
          exact ⟨.inl rfl, HB2.out _⟩
        have h1c : ¬ (600 : Int) < (k.size : Int) := by omega
        by_cases h2 : 5000 < it.t.size
        · have h2c : (5000 : Int) < (it.t.size : Int) := by omega
          go_wp2_with fail
          go_ret
          exact ⟨.inl rfl, HB2.out _⟩
        have h2c : ¬ (5000 : Int) < (it.t.size : Int) := by omega
        by_cases h3 : 20 < it.l.length
        · have h3c : (20 : Int) < (it.l.length : Int) := by omega
          go_wp2_with fail
          go_ret
          exact ⟨.inl rfl, HB2.out _⟩
        have h3c : ¬ (20 : Int) < (it.l.length : Int) := by omega
        go_wp2_with fail
        obtain ⟨wo, hwo⟩ : ∃ wo : World, wo = wr.alloc (.cells #[.int .i64 kd, .int .i64 nn, .string k, .int .i64 it.k, .string it.t, .slice fa it.l.length fc, .bool kp, .int .i64 wh, .int .u16 wt] 34) := ⟨_, rfl⟩
        have HBo : Hid (Below w.heap.size w wo) := Lib.hid (by rw [hwo]; exact HB2.out _)
        have HFo : Hid (Ia.InF wo fa it.l) := Lib.hid (by rw [hwo]; exact HF.out _)
        rw [← hwo]
        clear hwo c0 c1 c2 c3 c4 c5 c6 c7 c8
        generalize wr.heap.size = bx at *
        obtain ⟨gO, rfl⟩ : ∃ gO : Nat, gO = gk := ⟨_, rfl⟩
        go_loopg [6, 38, 39, 40, 41, 42, 43, 44, 45, 46, 47, 48, 49, 50, 51, 52] (it.l.length + 1) (fun g2 _ vj _ _ _ _ _ _ _ _ _ _ _ _ _ _ wr => ∃ j : Nat, vj = .int .i64 j ∧ j ≤ it.l.length ∧ it.l.length - j ≤ g2 ∧ Hid (∀ x (h : x < it.l.length), x < j → it.l[x].1.size ≤ 600 ∧ it.l[x].2.size ≤ 5000) ∧ Hid (Below wo.heap.size wo wr))
        case atStart => exact ⟨0, rfl, by omega, by omega, Lib.hid (fun _ _ h => absurd h (Nat.not_lt_zero _)), Lib.hid (Below.refl _ _)⟩
        case round =>
          obtain ⟨j, rfl, hj, hg2, HK2, HBr⟩ := hrel
          by_cases hjl : j < it.l.length
          case neg =>
            have hjc : ¬ ((j : Int) < (it.l.length : Int)) := by omega
            have HKd := Lib.hid (HKn.out ⟨by show k.size ≤ 600; omega, by show it.t.size ≤ 5000; omega, by show it.l.length ≤ 20; omega, fun x hx => HK2.out x hx (by have : x < it.l.length := hx; omega)⟩)
            have HBz := Lib.hid (Sp.bstep HBo.out HBr.out)
            clear HKn HK2
            go_wp2_with fail
            go_roundg (gO - 1)
            case measure => omega
            case rel => exact ⟨i + 1, by go_num, by omega, by omega, HKd, HBz⟩
          case pos =>
            have hjc : (j : Int) < (it.l.length : Int) := by omega
            obtain ⟨fb, fo, rfl, hflt, hfcs⟩ := (HFo.out.below (Nat.le_refl _) HBr.out) (by omega)
            obtain ⟨d0, d1⟩ := hfcs j hjl
            have HB3 := Lib.hid (fun O => Sp.bstep HBr.out (Sp.bbox (w := wr) O))
            have HK3 : Hid (it.l[j].1.size ≤ 600 → it.l[j].2.size ≤ 5000 → ∀ x (h : x < it.l.length), x < j + 1 → it.l[x].1.size ≤ 600 ∧ it.l[x].2.size ≤ 5000) := Lib.hid (fun k1 k2 x h hx => by
              by_cases hxj : x = j
              · subst hxj; exact ⟨k1, k2⟩
              · exact HK2.out x h (by omega))
            clear hfcs hflt HK2
            generalize it.l[j] = f at *
            obtain ⟨fx, fy⟩ := f
            have d0 : wr.cell? ⟨fb, fo + j * 2, none⟩ = some (.string fx) := d0
            have d1 : wr.cell? ⟨fb, fo + j * 2 + 1, none⟩ = some (.string fy) := d1
            by_cases h4 : 600 < fx.size
            · have h4c : (600 : Int) < (fx.size : Int) := by omega
              go_wp2_with fail
              go_ret
              exact ⟨.inl rfl, Sp.bstep HBo.out (HB3.out _)⟩
            have h4c : ¬ (600 : Int) < (fx.size : Int) := by omega
            by_cases h5 : 5000 < fy.size
            · have h5c : (5000 : Int) < (fy.size : Int) := by omega
              go_wp2_with fail
              go_ret
              exact ⟨.inl rfl, Sp.bstep HBo.out (HB3.out _)⟩
            have h5c : ¬ (5000 : Int) < (fy.size : Int) := by omega
            have HK4 := Lib.hid (HK3.out (by show fx.size ≤ 600; omega) (by show fy.size ≤ 5000; omega))
            go_wp2_with fail
            go_roundg (gk - 1)
            case measure => omega
            case rel => exact ⟨j + 1, by go_num, by omega, by omega, HK4, Lib.hid (HB3.out _)⟩
end Go.Proofs.YtmakmaambjgcnaaGreatDoor.Sa
/- StoreOne. Condition: the library's variables hold what start-up lays. -/
namespace Go.Proofs.YtmakmaambjgcnaaGreatDoor.Sa
set_option linter.unusedVariables false
set_option linter.unusedSimpArgs false
open Go.ChangeShapes Go.WideShapes Go.ChangeAt Go.RowKit
open Sp (Th Hp Stays All Ro roT rowT cellsT exT puT star)
/-- One key, and when it ends. -/
def on (i : Ia.It) (S : List Ea.Du) (ev : List (Int × ByteArray)) : Md := ⟨[(ByteArray.mk #[107])], updF (newM 100000000).f (ByteArray.mk #[107]) i, S, 100000000, ev⟩
theorem on_f (i : Ia.It) (S ev) : (on i S ev).f (ByteArray.mk #[107]) = i := updF_same (newM 100000000).f (ByteArray.mk #[107]) i
theorem on_in (i : Ia.It) (S ev) : Ca.inK (ByteArray.mk #[107]) (on i S ev).K = true := by show Ca.inK (ByteArray.mk #[107]) [(ByteArray.mk #[107])] = true; decide
theorem on_put {i : Ia.It} (hr : Ia.RightP i) (now : Int) : putM (ByteArray.mk #[107]) i false now true (newM 100000000) = on i [] [(1, (ByteArray.mk #[107]))] ∧ putN (ByteArray.mk #[107]) i true (newM 100000000) = 0 := by
  have hc := costN_le (k := (ByteArray.mk #[107])) (by decide) hr
  refine ⟨?_, put_ok _ _ (by decide) _ (by show _ ≤ (100000000 : Int); omega)⟩
  rw [put_room rfl List.nodup_nil (by simp [newM]) (by decide)]
  · rfl
  · show (((sumB _ [] : Nat) : Int) + costN (ByteArray.mk #[107]) i) ≤ 100000000
    simp [sumB]; omega
theorem on_ttl (i : Ia.It) (ev) (now : Int) : ttlN (ByteArray.mk #[107]) now (on i [] ev) = -1 := by
  unfold ttlN
  rw [on_in, if_pos rfl]
  rfl
theorem inD1 (e : Int) : Ea.inD (ByteArray.mk #[107]) [(e, (ByteArray.mk #[107]))] = true := by simp [Ea.inD]
theorem getD1 (e : Int) : Ea.getD (ByteArray.mk #[107]) [(e, (ByteArray.mk #[107]))] = e := by simp [Ea.getD]
theorem on_ttl2 (i : Ia.It) (ev) (e now : Int) : ttlN (ByteArray.mk #[107]) now (on i [(e, (ByteArray.mk #[107]))] ev) = e - now := by
  unfold ttlN
  rw [on_in, if_pos rfl, show (on i [(e, (ByteArray.mk #[107]))] ev).S = [(e, (ByteArray.mk #[107]))] from rfl, inD1, getD1, if_pos rfl]
theorem on_end {i : Ia.It} {ev} {e now : Int} (h : now < e) : endM (ByteArray.mk #[107]) now (on i [(e, (ByteArray.mk #[107]))] ev) = on i [(e, (ByteArray.mk #[107]))] ev := by
  unfold endM endsM
  rw [show (on i [(e, (ByteArray.mk #[107]))] ev).S = [(e, (ByteArray.mk #[107]))] from rfl, inD1, getD1, decide_eq_false (by omega : ¬ e ≤ now)]
  rfl
def off (i : Ia.It) (ev : List (Int × ByteArray)) : Md := ⟨[], updF (newM 100000000).f (ByteArray.mk #[107]) i, [], 100000000, ev⟩
theorem on_end2 {i : Ia.It} {ev} {e now : Int} (h : e ≤ now) : endM (ByteArray.mk #[107]) now (on i [(e, (ByteArray.mk #[107]))] ev) = off i (ev ++ [(3, (ByteArray.mk #[107]))]) := by
  unfold endM endsM
  rw [show (on i [(e, (ByteArray.mk #[107]))] ev).S = [(e, (ByteArray.mk #[107]))] from rfl, inD1, getD1, decide_eq_true h]
  show loseM (ByteArray.mk #[107]) 3 (on i [(e, (ByteArray.mk #[107]))] ev) = _
  unfold loseM
  have h1 : Ca.dropK (ByteArray.mk #[107]) [(ByteArray.mk #[107])] = [] := by decide
  have h2 : Ea.dropD (ByteArray.mk #[107]) [(e, (ByteArray.mk #[107]))] = [] := by simp [Ea.dropD]
  show Md.mk (Ca.dropK (ByteArray.mk #[107]) [(ByteArray.mk #[107])]) _ (Ea.dropD (ByteArray.mk #[107]) [(e, (ByteArray.mk #[107]))]) _ _ = _
  rw [h1, h2]
  rfl
theorem on_exp {i : Ia.It} {ev} {e now : Int} (h : now < e) (h0 : 0 ≤ now) (h1 : e ≤ 4611686018427387904) : expireM (ByteArray.mk #[107]) e now (on i [] ev) = on i [(e, (ByteArray.mk #[107]))] (ev ++ [(1, (ByteArray.mk #[107]))]) := by
  unfold expireM
  rw [end_none (show (on i [] ev).S = [] from rfl), if_neg (by omega), on_in, if_pos rfl, Int.min_eq_left h1]
  rfl
theorem on_per {i : Ia.It} {ev} {e now : Int} (h : now < e) : persistM (ByteArray.mk #[107]) now (on i [(e, (ByteArray.mk #[107]))] ev) = on i [] (ev ++ [(1, (ByteArray.mk #[107]))]) := by
  unfold persistM
  rw [on_end h, show (on i [(e, (ByteArray.mk #[107]))] ev).S = [(e, (ByteArray.mk #[107]))] from rfl, inD1, if_pos rfl]
  unfold undueM
  have h2 : Ea.dropD (ByteArray.mk #[107]) [(e, (ByteArray.mk #[107]))] = [] := by simp [Ea.dropD]
  show Md.mk _ _ (Ea.dropD (ByteArray.mk #[107]) [(e, (ByteArray.mk #[107]))]) _ _ = _
  rw [h2]
  rfl
theorem on_get (i : Ia.It) (S ev) : getM (ByteArray.mk #[107]) (on i S ev) = on i S ev ∧ gotI (ByteArray.mk #[107]) (on i S ev) = i := by
  unfold getM gotI
  rw [on_in, if_pos rfl, if_pos rfl]
  have h1 : Ca.touchK (ByteArray.mk #[107]) [(ByteArray.mk #[107])] = [(ByteArray.mk #[107])] := by decide
  refine ⟨?_, on_f i S ev⟩
  show Md.mk (Ca.touchK (ByteArray.mk #[107]) [(ByteArray.mk #[107])]) _ _ _ _ = _
  rw [h1]
  rfl
theorem off_get (i : Ia.It) (ev) : getM (ByteArray.mk #[107]) (off i ev) = off i ev ∧ gotI (ByteArray.mk #[107]) (off i ev) = zeroI ∧ Ca.inK (ByteArray.mk #[107]) (off i ev).K = false := ⟨rfl, rfl, rfl⟩
theorem ro_old {o w : World} {l : List Th} (h : Hp o w l) (r : Ro) (hr : ∀ R, (∀ x, x < o.heap.size → R x) → r.P R w) : Hp o w (roT r :: l) := by
  obtain ⟨O, R, h1, h2, h3, h4, h5⟩ := h
  exact ⟨O, R, ⟨fun _ => False, O, ⟨fun _ h => h, hr R h4⟩, h1, fun _ h => h.elim, fun x => by simp⟩, h2, h3, h4, h5⟩
theorem ro_dup {o w : World} {l : List Th} {r : Ro} (h : Hp o w (roT r :: l)) : Hp o w (roT r :: roT r :: l) := by
  obtain ⟨O, R, ⟨A, B, ⟨h0, h1⟩, h2, h3, h4⟩, h5⟩ := h
  exact ⟨O, R, ⟨fun _ => False, O, ⟨fun _ h => h, h1⟩, ⟨A, B, ⟨h0, h1⟩, h2, h3, h4⟩, fun _ h => h.elim, fun x => by simp⟩, h5⟩
/-- An item that came in. -/
theorem item_came {w : World} {a : Option Addr} {c : Nat} {i : Ia.It} (h1 : i.l.length ≤ c) (h2 : c ≤ 9223372036854775807) (h3 : Ia.InF w a i.l) : Hp w w [roT (itemR a c i)] :=
  ro_old (Hp.nil (Below.refl _ _)) _ fun R hR => ⟨h1, h2, fun hp => by
    obtain ⟨b, o, e, hlt, hc⟩ := h3 hp
    exact ⟨b, o, e, hR b hlt, hc⟩⟩
/-- The one act that the statement makes of an item. -/
theorem InA.one {w : World} {i : Ia.It} {a : Option Addr} {c : Nat} (hI : Ia.InF w a i.l) (h1 : i.l.length ≤ c) (h2 : c ≤ 9223372036854775807) (T : TypeId) :
    InA (w.alloc (.cells #[.int .i64 0, .int .i64 0, .string ⟨#[]⟩, .int .i64 i.k, .string i.t, .slice a i.l.length c, .bool false, .int .i64 0, .int .u16 0] T)) (some ⟨w.heap.size, 0, none⟩) [⟨0, 0, ⟨#[]⟩, i, a, c, false, 0, 0⟩] := fun _ => by
  refine ⟨w.heap.size, 0, rfl, by simp, fun j hj => ?_⟩
  obtain rfl : j = 0 := by simpa using hj
  refine ⟨fun r hr => ?_, hI.below (Nat.le_refl _) (Sp.bbox _), h1, h2⟩
  rw [show 0 + 0 * 9 + r = r by omega, World.cell?_alloc_new]
  simp only [List.getElem_cons_zero, cells9]
  match r, hr with
  | 0, _ => rfl
  | 1, _ => rfl
  | 2, _ => rfl
  | 3, _ => rfl
  | 4, _ => rfl
  | 5, _ => rfl
  | 6, _ => rfl
  | 7, _ => rfl
  | 8, _ => rfl
set_option maxHeartbeats 8000000 in
set_option maxRecDepth 100000 in
theorem storeOne (w : World) (hc : Ctx w) (i : Ia.It) (a : Option Addr) (c : Nat) (hic : i.l.length ≤ c) (hcc : c ≤ 9223372036854775807) (hI : Ia.InF w a i.l) (t0 t1 : Int) (h00 : 0 ≤ t0) (h01 : t0 ≤ 65535) (h10 : 0 ≤ t1) (h11 : t1 ≤ 65535) (persist : Bool) :
    Calls Tryz.prog 5 #[.agg #[.int .i64 i.k, .string i.t, .slice a i.l.length c], .agg #[.int .u16 t0, .int .u16 t1], .bool persist] w fun e w' => e = .returned (.bool true) ∧ Below w.heap.size w w' := by
  have h0 := (item_came hic hcc hI).cellsNew [.int .i64 i.k, .string i.t, .slice a i.l.length c] 31
  have h1 := h0.cellsNew [.int .u16 t0, .int .u16 t1] 64
  rw [show (w.alloc (.cells [Value.int .i64 i.k, .string i.t, .slice a i.l.length c].toArray 31)).heap.size = w.heap.size + 1 by simp] at h1
  have H0 := Lib.hid h1
  clear h0 h1 hI
  have HTm : Hid (Below w.heap.size w w) := Lib.hid (Below.refl _ _)
  go_enter Tryz.func5, Tryz.ntmps5
  go_upto_region 1 with fail
  have H0 : Hid (Hp w ((w.alloc (.cells #[.int .i64 i.k, .string i.t, .slice a i.l.length c] 31)).alloc (.cells #[.int .u16 t0, .int .u16 t1] 64)) (cellsT (w.heap.size + 1) [.int .u16 t0, .int .u16 t1] :: cellsT w.heap.size [.int .i64 i.k, .string i.t, .slice a i.l.length c] :: [roT (itemR a c i)])) := H0
  generalize (w.alloc (.cells #[.int .i64 i.k, .string i.t, .slice a i.l.length c] 31)).alloc (.cells #[.int .u16 t0, .int .u16 t1] 64) = W0 at *
  have HA := Lib.hid (storeAlive W0 (hc.below H0.out.below))
  go_wp2_with fail
  refine HA.out.mono ?_; rintro en w1 ⟨rfl, hb1⟩
  have H1 := Lib.hid (H0.out.bel hb1)
  clear HA hb1 H0
  have c0 := (H1.out.pull 1 rfl).cell 0 rfl
  have c1 := (H1.out.pull 1 rfl).cell 1 rfl
  have c2 := (H1.out.pull 1 rfl).cell 2 rfl
  have HG := Lib.hid (great_calls _ _ 1 1 _ rfl (InA.one (item_inF (H1.out.pull 2 rfl)) hic hcc 34))
  have H2 := Lib.hid (H1.out.bel (Sp.bbox (w := w1) (.cells #[.int .i64 0, .int .i64 0, .string ⟨#[]⟩, .int .i64 i.k, .string i.t, .slice a i.l.length c, .bool false, .int .i64 0, .int .u16 0] 34)))
  clear H1 H0
  go_wp2_with fail
  generalize w1.alloc (.cells #[.int .i64 0, .int .i64 0, .string ⟨#[]⟩, .int .i64 i.k, .string i.t, .slice a i.l.length c, .bool false, .int .i64 0, .int .u16 0] 34) = W1 at *
  generalize w1.heap.size = B1 at *
  clear c0 c1 c2
  refine HG.out.mono ?_; rintro en w2 ⟨(rfl | ⟨rfl, hok⟩), hb2⟩
  · have H3 := Lib.hid (H2.out.bel hb2)
    clear hb2 HG H2
    go_wp2_with fail
    go_ret
    exact ⟨rfl, H3.out.below⟩
  have H3 := Lib.hid (H2.out.bel hb2)
  have hl20 : i.l.length ≤ 20 := (hok.2 0 (Nat.lt_succ_self 0)).2.2.1
  have c0 := (H3.out.pull 1 rfl).cell 0 rfl
  have c1 := (H3.out.pull 1 rfl).cell 1 rfl
  have c2 := (H3.out.pull 1 rfl).cell 2 rfl
  obtain ⟨b, hb⟩ := Ia.some_bI (Ia.RightP i)
  have HR := Lib.hid (Ia.refRight_calls w2 i.k i.t a c _ i.l rfl (item_inF (H3.out.pull 2 rfl)) b hb)
  have HB := Lib.hid hb
  clear hb hok HG H2 hb2
  cases b with
  | false =>
    go_wp2_with fail
    refine HR.out.mono ?_; rintro en w3 ⟨rfl, hb3⟩
    have H4 := Lib.hid (H3.out.bel hb3)
    clear hb3 HR H3 c0 c1 c2
    go_wp2_with fail
    go_ret
    exact ⟨rfl, H4.out.below⟩
  | true =>
    have HRP : Hid (Ia.RightP i) := Lib.hid (HB.out.1 rfl)
    go_wp2_with fail
    refine HR.out.mono ?_; rintro en w3 ⟨rfl, hb3⟩
    have H4 := Lib.hid (H3.out.bel hb3)
    clear hb3 HR H3 c0 c1 c2 HB
    have HN := Lib.hid (new_calls H4.out (Below.refl _ _) 100000000)
    unfold ptr at HN
    go_wp2_with fail
    refine HN.out.mono ?_; rintro en w4 ⟨T, rfl, h4⟩
    have H5 := Lib.hid h4
    clear h4 HN H4
    have c0 := (H5.out.pull 1 rfl).cell 0 rfl
    have c1 := (H5.out.pull 1 rfl).cell 1 rfl
    go_wp2_with fail
    go_quiet (fail)
    have H6 := Lib.hid (H5.out.bel (Ta.drewN_below w4 nq))
    generalize w4.drewN nq = W5 at *
    clear c0 c1 H5
    have c0 := (H6.out.pull 2 rfl).cell 0 rfl
    have c1 := (H6.out.pull 2 rfl).cell 1 rfl
    have c2 := (H6.out.pull 2 rfl).cell 2 rfl
    have hp := put_calls ((ro_dup (H6.out.pull 3 rfl)).pull 2 rfl |>.push 1) (Below.refl _ _) (Ok.new 100000000) hc (ByteArray.mk #[107]) (by decide) (by omega) false t0 true ⟨fun _ => HRP.out, fun _ => rfl⟩ (by decide) (by decide)
    rw [(on_put HRP.out t0).1, (on_put HRP.out t0).2] at hp
    have HP := Lib.hid hp
    have HO1 : Hid (Ok (on i [] [(1, (ByteArray.mk #[107]))])) := Lib.hid (by rw [← (on_put HRP.out t0).1]; exact (Ok.new 100000000).putM (ByteArray.mk #[107]) i false t0 true fun _ => HRP.out)
    clear hp
    unfold ptr itV at HP
    go_wp2_with fail
    refine HP.out.mono ?_; rintro en w6 ⟨rfl, h7⟩
    have H7 := Lib.hid h7
    clear h7 HP H6 c0 c1 c2
    have ht := ttl_calls H7.out (Below.refl _ _) HO1.out hc (ByteArray.mk #[107]) (by decide) t0 h00 (by omega) (by show 1 ≤ 400; decide) (by show 1 ≤ _; omega)
    rw [end_none (show (on i [] [(1, (ByteArray.mk #[107]))]).S = [] from rfl), on_ttl] at ht
    have HT := Lib.hid ht
    unfold ptr at HT
    clear ht H7
    go_wp2_with fail
    refine HT.out.mono ?_; rintro en w7 ⟨rfl, h8⟩
    have H8 := Lib.hid h8
    clear h8 HT
    go_upto_region 10 with fail
    obtain ⟨e, he⟩ : ∃ e : Int, e = t0 + (t1 + 1) := ⟨_, rfl⟩
    rw [← he]
    have HE := Lib.hid he
    have he0 : t0 < e := by omega
    have he1 : e ≤ 200000 := by omega
    have he2 : e - 1 < e := by omega
    have he3 : 0 ≤ e := by omega
    have HE0 := Lib.hid he0
    have HE2 := Lib.hid he2
    clear he0 he2
    clear he
    have hx := expire_calls H8.out (Below.refl _ _) HO1.out hc (ByteArray.mk #[107]) (by decide) e t0 (by show 1 ≤ 400; decide) (by show 1 ≤ _; omega)
    rw [on_exp HE0.out h00 (by omega), end_none (show (on i [] [(1, (ByteArray.mk #[107]))]).S = [] from rfl), on_in] at hx
    have HX := Lib.hid hx
    have HO2 : Hid (Ok (on i [(e, (ByteArray.mk #[107]))] ([(1, (ByteArray.mk #[107]))] ++ [(1, (ByteArray.mk #[107]))]))) := Lib.hid (by rw [← on_exp HE0.out h00 (by omega)]; exact HO1.out.expire (ByteArray.mk #[107]) e t0)
    unfold ptr at HX
    clear hx H8
    go_wp2_with fail
    refine HX.out.mono ?_; rintro en w8 ⟨rfl, h9⟩
    have ht := ttl_calls h9 (Below.refl _ _) HO2.out hc (ByteArray.mk #[107]) (by decide) t0 h00 (by omega) (by show 1 ≤ 400; decide) (by show 2 ≤ _; omega)
    rw [on_end HE0.out, on_ttl2, show e - t0 = t1 + 1 by have := HE.out; omega] at ht
    have HT := Lib.hid ht
    unfold ptr at HT
    clear ht h9 HX
    go_wp2_with fail
    refine HT.out.mono ?_; rintro en w9 ⟨rfl, h10⟩
    have H10 := Lib.hid h10
    clear h10 HT
    cases persist with
    | true =>
      have hp := persist_calls H10.out (Below.refl _ _) HO2.out hc (ByteArray.mk #[107]) (by decide) (e - 1) (by show 1 ≤ 400; decide) (by show 2 ≤ _; omega)
      rw [on_end HE2.out, on_per HE2.out, show Ea.inD (ByteArray.mk #[107]) (on i [(e, (ByteArray.mk #[107]))] ([(1, (ByteArray.mk #[107]))] ++ [(1, (ByteArray.mk #[107]))])).S = true from inD1 e] at hp
      have HP := Lib.hid hp
      have HO3 : Hid (Ok (on i [] ([(1, (ByteArray.mk #[107]))] ++ [(1, (ByteArray.mk #[107]))] ++ [(1, (ByteArray.mk #[107]))]))) := Lib.hid (by rw [← on_per HE2.out]; exact HO2.out.persist (ByteArray.mk #[107]) (e - 1))
      unfold ptr at HP
      clear hp H10
      go_wp2_with fail
      refine HP.out.mono ?_; rintro en w10 ⟨rfl, h11⟩
      have hg := get_calls h11 (Below.refl _ _) HO3.out hc (ByteArray.mk #[107]) (by decide) (e - 1) (by show 1 ≤ 400; decide) (by show 3 ≤ _; omega)
      rw [end_none (show (on i [] ([(1, (ByteArray.mk #[107]))] ++ [(1, (ByteArray.mk #[107]))] ++ [(1, (ByteArray.mk #[107]))])).S = [] from rfl), (on_get i _ _).1, (on_get i _ _).2, on_in] at hg
      have HG := Lib.hid hg
      unfold ptr itV at HG
      clear hg h11 HP
      go_wp2_with fail
      refine HG.out.mono ?_; rintro en w11 ⟨a1, d1, rfl, h12⟩
      have h13 := h12.cellsNew [.int .i64 i.k, .string i.t, .slice a1 i.l.length d1] 31
      have H13 : Hid (Hp w (w11.alloc (.cells #[.int .i64 i.k, .string i.t, .slice a1 i.l.length d1] 31)) (cellsT w11.heap.size [.int .i64 i.k, .string i.t, .slice a1 i.l.length d1] :: roT (itemR a1 d1 i) :: storeT T (on i [] [(1, (ByteArray.mk #[107])), (1, (ByteArray.mk #[107])), (1, (ByteArray.mk #[107]))]) :: roT (itemR a c i) :: cellsT (w.heap.size + 1) [.int .u16 t0, .int .u16 t1] :: cellsT w.heap.size [.int .i64 i.k, .string i.t, .slice a i.l.length c] :: [])) := Lib.hid h13
      clear h13 h12 HG
      go_upto_region 15 with fail
      generalize w11.alloc (.cells #[.int .i64 i.k, .string i.t, .slice a1 i.l.length d1] 31) = W12 at *
      generalize w11.heap.size = BX at *
      have hg := get_calls (H13.out.pull 2 rfl) (Below.refl _ _) HO3.out hc (ByteArray.mk #[107]) (by decide) e (by show 1 ≤ 400; decide) (by show 3 ≤ _; omega)
      have hg2 : Calls Tryz.prog 29 #[ptr T, .string (ByteArray.mk #[107]), .int .i64 e] W12 fun en w' => ∃ a2 d2, en = .returned (.tuple #[itV a2 d2 i, .bool true]) ∧ Hp w w' (roT (itemR a2 d2 i) :: storeT T (on i [] [(1, (ByteArray.mk #[107])), (1, (ByteArray.mk #[107])), (1, (ByteArray.mk #[107]))]) :: cellsT BX [.int .i64 i.k, .string i.t, .slice a1 i.l.length d1] :: roT (itemR a1 d1 i) :: roT (itemR a c i) :: cellsT (w.heap.size + 1) [.int .u16 t0, .int .u16 t1] :: cellsT w.heap.size [.int .i64 i.k, .string i.t, .slice a i.l.length c] :: []) := by
        rw [end_none (show (on i [] [(1, (ByteArray.mk #[107])), (1, (ByteArray.mk #[107])), (1, (ByteArray.mk #[107]))]).S = [] from rfl), (on_get i _ _).1, (on_get i _ _).2, on_in] at hg
        exact hg
      have HG := Lib.hid hg2
      unfold ptr itV at HG
      clear hg hg2 H13
      go_wp2_with fail
      refine HG.out.mono ?_; rintro en w13 ⟨a2, d2, rfl, h14⟩
      have h15 := h14.cellsNew [.int .i64 i.k, .string i.t, .slice a2 i.l.length d2] 31
      have H15 : Hid (Hp w (w13.alloc (.cells #[.int .i64 i.k, .string i.t, .slice a2 i.l.length d2] 31)) (cellsT w13.heap.size [.int .i64 i.k, .string i.t, .slice a2 i.l.length d2] :: roT (itemR a2 d2 i) :: storeT T (on i [] [(1, (ByteArray.mk #[107])), (1, (ByteArray.mk #[107])), (1, (ByteArray.mk #[107]))]) :: cellsT BX [.int .i64 i.k, .string i.t, .slice a1 i.l.length d1] :: roT (itemR a1 d1 i) :: roT (itemR a c i) :: cellsT (w.heap.size + 1) [.int .u16 t0, .int .u16 t1] :: cellsT w.heap.size [.int .i64 i.k, .string i.t, .slice a i.l.length c] :: [])) := Lib.hid h15
      clear h14 h15 HG
      go_upto_region 16 with fail
      generalize w13.alloc (.cells #[.int .i64 i.k, .string i.t, .slice a2 i.l.length d2] 31) = W14 at *
      generalize w13.heap.size = BY at *
      have x0 := (H15.out.pull 3 rfl).cell 0 rfl
      have x1 := (H15.out.pull 3 rfl).cell 1 rfl
      have x2 := (H15.out.pull 3 rfl).cell 2 rfl
      have i0 := (H15.out.pull 7 rfl).cell 0 rfl
      have i1 := (H15.out.pull 7 rfl).cell 1 rfl
      have i2 := (H15.out.pull 7 rfl).cell 2 rfl
      have hil : i.l.length ≤ 9223372036854775807 := by omega
      have HS1 := Lib.hid (Ia.refSame_calls W14 i.k i.k i.t i.t a1 a d1 c _ _ i.l i.l rfl rfl hil hil (item_inF (H15.out.pull 4 rfl)) (item_inF (H15.out.pull 5 rfl)) true ⟨fun _ => ⟨rfl, rfl, rfl⟩, fun _ => rfl⟩)


      go_wp2_with fail
      refine HS1.out.mono ?_; rintro en w15 ⟨rfl, hb15⟩
      have H16 := Lib.hid (H15.out.bel hb15)
      clear hb15 HS1 H15 x0 x1 x2 i0 i1 i2
      have y0 := (H16.out.pull 0 rfl).cell 0 rfl
      have y1 := (H16.out.pull 0 rfl).cell 1 rfl
      have y2 := (H16.out.pull 0 rfl).cell 2 rfl
      have i0 := (H16.out.pull 7 rfl).cell 0 rfl
      have i1 := (H16.out.pull 7 rfl).cell 1 rfl
      have i2 := (H16.out.pull 7 rfl).cell 2 rfl
      have HS1 := Lib.hid (Ia.refSame_calls w15 i.k i.k i.t i.t a2 a d2 c _ _ i.l i.l rfl rfl hil hil (item_inF (H16.out.pull 1 rfl)) (item_inF (H16.out.pull 5 rfl)) true ⟨fun _ => ⟨rfl, rfl, rfl⟩, fun _ => rfl⟩)
      go_wp2_with fail
      refine HS1.out.mono ?_; rintro en w16 ⟨rfl, hb16⟩
      have H17 := Lib.hid (H16.out.bel hb16)
      clear hb16 HS1 H16 y0 y1 y2 i0 i1 i2
      obtain ⟨E, hE0, hlen⟩ := store_len (H17.out.pull 2 rfl)
      have HL : Hid (∀ wb, Below w16.heap.size w16 wb → Calls Tryz.prog 13 #[.pointer (some ⟨E, 0, none⟩)] wb fun e w' => e = .returned (.int .i64 1) ∧ ∃ n, w' = wb.drewN n) := Lib.hid hlen
      have HBl := Lib.hid H17.out.below
      clear hlen H17
      go_wp2_with fail
      refine (HL.out _ (Below.refl _ _)).mono ?_; rintro en w17 ⟨rfl, n, rfl⟩
      go_wp2_with fail
      go_ret
      exact ⟨rfl, Sp.bstep HBl.out (Ta.drewN_below _ n)⟩
    | false =>
      have hg := get_calls H10.out (Below.refl _ _) HO2.out hc (ByteArray.mk #[107]) (by decide) (e - 1) (by show 1 ≤ 400; decide) (by show 2 ≤ _; omega)
      rw [on_end HE2.out, (on_get i _ _).1, (on_get i _ _).2, on_in] at hg
      have HG := Lib.hid hg
      unfold ptr itV at HG
      clear hg H10
      go_wp2_with fail
      refine HG.out.mono ?_; rintro en w11 ⟨a1, d1, rfl, h12⟩
      have h13 := h12.cellsNew [.int .i64 i.k, .string i.t, .slice a1 i.l.length d1] 31
      have H13 : Hid (Hp w (w11.alloc (.cells #[.int .i64 i.k, .string i.t, .slice a1 i.l.length d1] 31)) (cellsT w11.heap.size [.int .i64 i.k, .string i.t, .slice a1 i.l.length d1] :: roT (itemR a1 d1 i) :: storeT T (on i [(e, (ByteArray.mk #[107]))] [(1, (ByteArray.mk #[107])), (1, (ByteArray.mk #[107]))]) :: roT (itemR a c i) :: cellsT (w.heap.size + 1) [.int .u16 t0, .int .u16 t1] :: cellsT w.heap.size [.int .i64 i.k, .string i.t, .slice a i.l.length c] :: [])) := Lib.hid h13
      clear h13 h12 HG
      go_upto_region 15 with fail
      generalize w11.alloc (.cells #[.int .i64 i.k, .string i.t, .slice a1 i.l.length d1] 31) = W12 at *
      generalize w11.heap.size = BX at *
      have hg := get_calls (H13.out.pull 2 rfl) (Below.refl _ _) HO2.out hc (ByteArray.mk #[107]) (by decide) e (by show 1 ≤ 400; decide) (by show 2 ≤ _; omega)
      have hg2 : Calls Tryz.prog 29 #[ptr T, .string (ByteArray.mk #[107]), .int .i64 e] W12 fun en w' => ∃ a2 d2, en = .returned (.tuple #[itV a2 d2 zeroI, .bool false]) ∧ Hp w w' (roT (itemR a2 d2 zeroI) :: storeT T (off i [(1, (ByteArray.mk #[107])), (1, (ByteArray.mk #[107])), (3, (ByteArray.mk #[107]))]) :: cellsT BX [.int .i64 i.k, .string i.t, .slice a1 i.l.length d1] :: roT (itemR a1 d1 i) :: roT (itemR a c i) :: cellsT (w.heap.size + 1) [.int .u16 t0, .int .u16 t1] :: cellsT w.heap.size [.int .i64 i.k, .string i.t, .slice a i.l.length c] :: []) := by
        rw [on_end2 (Int.le_refl e), (off_get i _).1, (off_get i _).2.1, (off_get i _).2.2] at hg
        exact hg
      have HG := Lib.hid hg2
      unfold ptr itV zeroI at HG
      clear hg hg2 H13
      go_wp2_with fail
      refine HG.out.mono ?_; rintro en w13 ⟨a2, d2, rfl, h14⟩
      have h15 := h14.cellsNew [.int .i64 0, .string ⟨#[]⟩, .slice a2 0 d2] 31
      have H15 : Hid (Hp w (w13.alloc (.cells #[.int .i64 0, .string ⟨#[]⟩, .slice a2 0 d2] 31)) (cellsT w13.heap.size [.int .i64 0, .string ⟨#[]⟩, .slice a2 0 d2] :: roT (itemR a2 d2 zeroI) :: storeT T (off i [(1, (ByteArray.mk #[107])), (1, (ByteArray.mk #[107])), (3, (ByteArray.mk #[107]))]) :: cellsT BX [.int .i64 i.k, .string i.t, .slice a1 i.l.length d1] :: roT (itemR a1 d1 i) :: roT (itemR a c i) :: cellsT (w.heap.size + 1) [.int .u16 t0, .int .u16 t1] :: cellsT w.heap.size [.int .i64 i.k, .string i.t, .slice a i.l.length c] :: [])) := Lib.hid h15
      clear h14 h15 HG
      go_upto_region 16 with fail
      generalize w13.alloc (.cells #[.int .i64 0, .string ⟨#[]⟩, .slice a2 0 d2] 31) = W14 at *
      generalize w13.heap.size = BY at *
      have x0 := (H15.out.pull 3 rfl).cell 0 rfl
      have x1 := (H15.out.pull 3 rfl).cell 1 rfl
      have x2 := (H15.out.pull 3 rfl).cell 2 rfl
      have i0 := (H15.out.pull 7 rfl).cell 0 rfl
      have i1 := (H15.out.pull 7 rfl).cell 1 rfl
      have i2 := (H15.out.pull 7 rfl).cell 2 rfl
      have hil : i.l.length ≤ 9223372036854775807 := by omega
      have HS1 := Lib.hid (Ia.refSame_calls W14 i.k i.k i.t i.t a1 a d1 c _ _ i.l i.l rfl rfl hil hil (item_inF (H15.out.pull 4 rfl)) (item_inF (H15.out.pull 5 rfl)) true ⟨fun _ => ⟨rfl, rfl, rfl⟩, fun _ => rfl⟩)
      go_wp2_with fail
      refine HS1.out.mono ?_; rintro en w15 ⟨rfl, hb15⟩
      have H17 := Lib.hid (H15.out.bel hb15)
      clear hb15 HS1 H15 x0 x1 x2 i0 i1 i2
      obtain ⟨E, hE0, hlen⟩ := store_len (H17.out.pull 2 rfl)
      have HL : Hid (∀ wb, Below w15.heap.size w15 wb → Calls Tryz.prog 13 #[.pointer (some ⟨E, 0, none⟩)] wb fun e w' => e = .returned (.int .i64 0) ∧ ∃ n, w' = wb.drewN n) := Lib.hid hlen
      have HBl := Lib.hid H17.out.below
      clear hlen H17
      go_wp2_with fail
      refine (HL.out _ (Below.refl _ _)).mono ?_; rintro en w17 ⟨rfl, n, rfl⟩
      go_wp2_with fail
      go_ret
      exact ⟨rfl, Sp.bstep HBl.out (Ta.drewN_below _ n)⟩
end Go.Proofs.YtmakmaambjgcnaaGreatDoor.Sa
