/- Package store: the chapter's example, plain; ten; the table of a Store (Len, Keys). No condition. -/
import Derived.Test.YtmjlhmohglbecaaGreatDoorSaD
import Derived.Test.YtmjlhmohglbecaaGreatDoorTap
import Derived.Laws.StructEq
import Derived.Test.YtmjlhmohglbecaaGreatDoorIaD
import Derived.Test.YtmjlhmohglbecaaGreatDoorIc6
import Derived.Test.YtmjlhmohglbecaaGreatDoorSpB
import Derived.Test.YtmjlhmohglbecaaGreatDoorEr1
namespace Go.Proofs.YtmjlhmohglbecaaGreatDoor.Sa
set_option linter.unusedVariables false
set_option linter.unusedSimpArgs false
open Go.ChangeShapes Go.WideShapes Go.ChangeAt Go.RowKit
open Sp (Th Hp Stays All Ro roT rowT cellsT exT puT star)
theorem dv_digs : ∀ (l : List UInt8) (acc u : Nat), Num.dv acc l = some u → ∀ c ∈ l, 48 ≤ c.toNat ∧ c.toNat ≤ 57
  | [], _, _, _, c, h => by cases h
  | d :: r, acc, u, h, c, hc => by
    simp only [Num.dv] at h
    split at h
    · rename_i hd
      rcases List.mem_cons.1 hc with rfl | hc
      · exact hd
      · exact dv_digs r _ u h c hc
    · cases h
theorem itoa_mem (v : Int) (b : UInt8) (h : b ∈ Lib.itoa v) : (48 ≤ b.toNat ∧ b.toNat ≤ 57) ∨ b.toNat = 45 := by
  by_cases hv : 0 ≤ v
  · obtain ⟨u, rfl⟩ := Int.eq_ofNat_of_zero_le hv
    rw [Lib.itoa_nonneg] at h
    exact .inl (dv_digs _ 0 u (Num.dv_decDigits u) b h)
  · obtain ⟨u, hu⟩ : ∃ u : Nat, v = -(u : Int) := ⟨(-v).toNat, by omega⟩
    subst hu
    rw [Lib.itoa_neg u (by omega)] at h
    rcases List.mem_cons.1 h with rfl | h
    · exact .inr rfl
    · exact .inl (dv_digs _ 0 u (Num.dv_decDigits u) b h)
theorem wp_end {l : List UInt8} {b : UInt8} (h : b ∈ l) (hb : ¬ (48 ≤ b.toNat ∧ b.toNat ≤ 57)) (h2 : b.toNat ≠ 45) : Num.wp l = (0, 11) := by
  rcases Num.wp_cases l with ⟨v, -, -, e, -⟩ | ⟨-, e⟩
  · exfalso
    rw [← e] at h
    have h3 := itoa_mem v b h
    omega
  · exact e
/-- A text that holds a letter counts its bytes. -/
theorem textC_let {t : ByteArray} {b : UInt8} (h : b ∈ t.data.toList) (hb : ¬ (48 ≤ b.toNat ∧ b.toNat ≤ 57)) (h2 : b.toNat ≠ 45) : Ia.textC t = t.size := by
  unfold Ia.textC
  rw [wp_end h hb h2]
  rfl
def tenI : Ia.It := ⟨1, ⟨#[97, 98, 99, 100, 101, 102, 103, 104, 105, 106]⟩, []⟩
theorem ten_right : Ia.RightP tenI := .inl ⟨rfl, by decide, rfl⟩
theorem ten_cost (k : ByteArray) : costN k tenI = 58 + k.size := by
  unfold costN
  rw [if_pos (show tenI.k = 1 from rfl), textC_let (b := 97) (by decide) (by decide) (by decide)]
  show 48 + k.size + 10 = _
  omega
theorem end_none {m : Md} (h : m.S = []) (k : ByteArray) (now : Int) : endM k now m = m := by
  unfold endM endsM
  rw [h]
  rfl
/-- Put of a new key, where there is room. -/
theorem put_room {m : Md} (hS : m.S = []) (hK : m.K.Nodup) {k : ByteArray} (hk : k ∉ m.K) (hz : k.size ≤ 512) (i : Ia.It) (now : Int) (hr : (sumB m.f m.K + costN k i : Int) ≤ m.b) : putM k i false now true m = { m with K := m.K ++ [k], f := updF m.f k i, ev := m.ev ++ [(1, k)] } := by
  unfold putM
  rw [if_neg (by rintro (h | h); omega; cases h), end_none hS, if_neg (by omega)]
  have hs : setM k i false m = { m with K := m.K ++ [k], f := updF m.f k i, ev := m.ev ++ [(1, k)] } := by
    unfold setM
    rw [touchK_permNo hk, hS]
    rfl
  rw [hs]
  refine evF_stop (.inl ?_) _
  show ((sumB (updF m.f k i) (m.K ++ [k]) : Nat) : Int) ≤ m.b
  rw [sumB_app, sumB_updNo hk, sumB_cons, updF_same, show sumB (updF m.f k i) [] = 0 from rfl]
  omega
theorem sumB_ten {f : ByteArray → Ia.It} : ∀ {K : List ByteArray}, (∀ k ∈ K, f k = tenI ∧ k.size = 1) → sumB f K = 59 * K.length
  | [], _ => rfl
  | k :: K, h => by
    have h1 := h k (List.mem_cons_self ..)
    rw [sumB_cons, sumB_ten fun x hx => h x (List.mem_cons_of_mem _ hx), h1.1, ten_cost, h1.2, List.length_cons]
    omega
theorem mem2 {P : ByteArray → Prop} {a b : ByteArray} (ha : P a) (hb : P b) : ∀ k ∈ [a, b], P k := fun k hk => by
  rcases List.mem_cons.1 hk with rfl | hk
  · exact ha
  · rw [List.mem_singleton.1 hk]; exact hb
theorem mem3 {P : ByteArray → Prop} {a b c : ByteArray} (ha : P a) (hb : P b) (hc : P c) : ∀ k ∈ [a, b, c], P k := fun k hk => by
  rcases List.mem_cons.1 hk with rfl | hk
  · exact ha
  · exact mem2 hb hc k hk
def kA : ByteArray := ⟨#[97]⟩
def kB : ByteArray := ⟨#[98]⟩
def kC : ByteArray := ⟨#[99]⟩
def al1 : Md := ⟨[kA], updF (newM 120).f kA tenI, [], 120, [(1, kA)]⟩
def al2 : Md := ⟨[kA, kB], updF al1.f kB tenI, [], 120, [(1, kA), (1, kB)]⟩
def al3 : Md := ⟨[kB, kC], updF al2.f kC tenI, [], 120, [(1, kA), (1, kB), (1, kC), (4, kA)]⟩
theorem al_1 : putM kA tenI false 0 true (newM 120) = al1 := by
  rw [put_room rfl List.nodup_nil (by simp [newM]) (by decide)]
  · rfl
  · rw [ten_cost]; decide
theorem nBA : kB ∉ [kA] := fun h => by have := List.mem_singleton.1 h; revert this; decide
theorem nCAB : kC ∉ [kA, kB] := fun h => by
  rcases List.mem_cons.1 h with h | h
  · revert h; decide
  · have := List.mem_singleton.1 h; revert this; decide
theorem al_sum1 : sumB al1.f al1.K = 59 := sumB_ten (K := [kA]) fun k hk => by rw [List.mem_singleton.1 hk]; exact ⟨rfl, rfl⟩
theorem al_2 : putM kB tenI false 0 true al1 = al2 := by
  rw [put_room rfl (by decide) nBA (by decide)]
  · rfl
  · rw [ten_cost, al_sum1]; decide
theorem al_sum2 : sumB al2.f al2.K = 118 := sumB_ten (K := [kA, kB]) (mem2 ⟨rfl, rfl⟩ ⟨rfl, rfl⟩)
theorem al_3 : putM kC tenI false 0 true al2 = al3 := by
  unfold putM
  rw [if_neg (by rintro (h | h); revert h; decide; cases h), end_none rfl, if_neg (by rw [ten_cost]; decide)]
  have hs : setM kC tenI false al2 = ⟨[kA, kB, kC], updF al2.f kC tenI, [], 120, [(1, kA), (1, kB), (1, kC)]⟩ := rfl
  rw [hs]
  have e3 : sumB (updF al2.f kC tenI) [kA, kB, kC] = 177 := sumB_ten (K := [kA, kB, kC]) (mem3 ⟨rfl, rfl⟩ ⟨rfl, rfl⟩ ⟨rfl, rfl⟩)
  rw [evM_step (x := kA) (y := kB) (r := [kC]) (by show [kA, kB, kC].Nodup; decide) rfl (by show (120 : Int) < ((sumB (updF al2.f kC tenI) [kA, kB, kC] : Nat) : Int); rw [e3]; decide)]
  have hl : loseM kA 4 ⟨[kA, kB, kC], updF al2.f kC tenI, [], 120, [(1, kA), (1, kB), (1, kC)]⟩ = al3 := rfl
  rw [hl]
  refine evF_stop (.inl ?_) _
  have e4 : sumB (updF al2.f kC tenI) [kB, kC] = 118 := sumB_ten (K := [kB, kC]) (mem2 ⟨rfl, rfl⟩ ⟨rfl, rfl⟩)
  show ((sumB (updF al2.f kC tenI) [kB, kC] : Nat) : Int) ≤ 120
  rw [e4]; decide
theorem al_sum3 : sumB al3.f al3.K = 118 := sumB_ten (K := [kB, kC]) (mem2 ⟨rfl, rfl⟩ ⟨rfl, rfl⟩)
theorem put_ok (m : Md) (k : ByteArray) (hz : k.size ≤ 512) (i : Ia.It) (hb : (costN k i : Int) ≤ m.b) : putN k i true m = 0 := by
  unfold putN
  rw [if_neg (by rintro (h | h); omega; cases h), if_neg (by omega)]
theorem Ok.al1 : Ok al1 := by rw [← al_1]; exact (Ok.new 120).putM kA tenI false 0 true fun _ => ten_right
theorem Ok.al2 : Ok al2 := by rw [← al_2]; exact Ok.al1.putM kB tenI false 0 true fun _ => ten_right
theorem Ok.al3 : Ok al3 := by rw [← al_3]; exact Ok.al2.putM kC tenI false 0 true fun _ => ten_right
section
variable {o w w' wb : World} {l : List Th} {T : Nat} {m : Md}
set_option maxHeartbeats 4000000 in
theorem ten_calls (w : World) : Calls Tryz.prog 23 #[] w fun e w' => e = .returned (itV none 0 tenI) ∧ Below w.heap.size w w' := by
  go_enter Tryz.func23, Tryz.ntmps23
  go_wp2_with fail
  exact bodyPost_ret (v := itV none 0 tenI) (by simp [results, Tryz.results23, go_sem, itV, tenI]) rfl ⟨rfl, Sp.bbox _⟩
/-- A text's item lies nowhere. -/
theorem item_free (h : Hp o w l) (i : Ia.It) (hi : i.l = []) (a : Option Addr) (c : Nat) (hc : c ≤ 9223372036854775807) : Hp o w (roT (itemR a c i) :: l) :=
  ro_new h _ fun R => ⟨by rw [hi]; exact Nat.zero_le _, hc, fun hp => by rw [hi] at hp; exact absurd hp (by decide)⟩
/-- The table of a Store: how many keys. -/
theorem store_len (h : Hp o w (storeT T m :: l)) : ∃ E, w.cell? ⟨T, 0, none⟩ = some (.pointer (some ⟨E, 0, none⟩)) ∧ ∀ wb, Below w.heap.size w wb →
    Calls Tryz.prog 11 #[.pointer (some ⟨E, 0, none⟩)] wb fun e w' => e = .returned (.int .i64 m.K.length) ∧ ∃ n, w' = wb.drewN n := by
  obtain ⟨E, U, X, rv, P, f, ev, gn, hr, h⟩ := store_open2 h
  refine ⟨E, h.cell 0 rfl, fun wb hb => ?_⟩
  have := tab_len (h.pull 1 rfl) hb
  rw [show P.length = m.K.length from hr.len] at this
  exact this
end
end Go.Proofs.YtmjlhmohglbecaaGreatDoor.Sa
/- Package store: Keys of a Store (its table's own). No condition. -/
namespace Go.Proofs.YtmjlhmohglbecaaGreatDoor.Sa
set_option linter.unusedVariables false
set_option linter.unusedSimpArgs false
open Go.ChangeShapes Go.WideShapes Go.ChangeAt Go.RowKit
open Sp (Th Hp Stays All Ro roT rowT cellsT exT puT star)
/-- Texts in a block that no one writes. -/
def strsR (g : Nat) (L : List ByteArray) : Ro :=
  ⟨fun R w => R g ∧ ∀ i (h : i < L.length), w.cell? ⟨g, i, none⟩ = some (.string L[i]), fun h _ _ hR hb => ⟨hR _ h.1, fun i hi => (cell_eq (hb _ h.1) i).trans (h.2 i hi)⟩⟩
/-- All of K, in order, each once. -/
structure KeysOf (L K : List ByteArray) : Prop where
  mem : ∀ k, k ∈ L ↔ k ∈ K
  up : L.Pairwise fun a b => Op.bytesLess a.toList b.toList = true
  len : L.length = K.length
section
variable {o w w' wb : World} {l : List Th} {T : Nat} {m : Md}
/-- What a call made, and no one writes from now on. -/
theorem ro_made (h : Hp o w l) (hb : Below w.heap.size w w') (r : Ro) (hr : ∀ R : Nat → Prop, (∀ x, w.heap.size ≤ x → x < w'.heap.size → R x) → r.P R w') : Hp o w' (roT r :: l) :=
  h.add hb (ts := [roT r]) fun {R} hR => ⟨fun _ => False, fun x => R x ∨ (w.heap.size ≤ x ∧ x < w'.heap.size), ⟨fun _ => False, fun _ => False, ⟨fun _ h => h, hr _ fun x h1 h2 => .inr ⟨h1, h2⟩⟩, fun _ h => h, fun _ h => h.elim, fun x => by simp⟩, fun x hx => hx.elim, fun _ h => .inl h, fun x hx => ⟨hx.imp id (·.1), hx.elim (fun h => Nat.lt_of_lt_of_le (hR x h) hb.size) (·.2)⟩⟩
theorem strs_cell {g : Nat} {L : List ByteArray} (h : Hp o w (roT (strsR g L) :: l)) {i : Nat} (hi : i < L.length) : w.cell? ⟨g, i, none⟩ = some (.string L[i]) := h.say fun hp _ _ => hp.2.2 i hi
theorem arr_data (k : ByteArray) : (⟨k.data.toList.toArray⟩ : ByteArray) = k := by cases k; simp
theorem keys_of {s : Ta.St} {f : ByteArray → Option Int} {n : Nat} {E G1 G2 : Nat} (h : TabP E f n G1 G2 s w) {K : List ByteArray} (hK : ∀ k, (f k).isSome = Ca.inK k K) (hn : n = K.length) : KeysOf ((Ta.keysS s).map fun x => (⟨x.toArray⟩ : ByteArray)) K := by
  have hlen : (Ta.keysS s).length = K.length := by
    have := Ta.keysS_len h.ok.toOk
    rw [h.len] at this
    omega
  have hsub : ∀ k, k ∈ ((Ta.keysS s).map fun x => (⟨x.toArray⟩ : ByteArray)) → k ∈ K := fun k hk => by
    obtain ⟨x, hx, rfl⟩ := List.mem_map.1 hk
    obtain ⟨k, v, rfl, hH⟩ := Ta.keysS_mem hx
    rw [arr_data]
    have h1 := (h.kp.look_iff k v).2 hH
    rw [h.look] at h1
    refine Ca.inK_iff.1 ?_
    rw [← hK, h1]; rfl
  have hnd : ((Ta.keysS s).map fun x => (⟨x.toArray⟩ : ByteArray)).Nodup := by
    refine List.pairwise_map.2 ((Ta.keysS_nodup h.kp).imp fun {a b} hab e => hab ?_)
    have e := congrArg (fun z : ByteArray => z.data.toList) e
    simpa using e
  refine ⟨fun k => ⟨hsub k, fun hk => ?_⟩, ?_, by rw [List.length_map]; exact hlen⟩
  · by_cases hin : k ∈ ((Ta.keysS s).map fun x => (⟨x.toArray⟩ : ByteArray))
    · exact hin
    · exfalso
      have hKn : (k :: ((Ta.keysS s).map fun x => (⟨x.toArray⟩ : ByteArray))).length ≤ K.length := by
        refine (List.Nodup.length_le_of_subset (List.nodup_cons.2 ⟨hin, hnd⟩) fun x hx => ?_)
        rcases List.mem_cons.1 hx with rfl | hx
        · exact hk
        · exact hsub x hx
      rw [List.length_cons, List.length_map, hlen] at hKn
      omega
  · refine List.pairwise_map.2 (List.pairwise_iff_getElem.2 fun i j hi hj hij => ?_)
    have h1 := of_decide_eq_true (List.pairwise_iff_getElem.1 (Ta.keysS_sorted s) i j hi hj hij)
    have h2 := List.pairwise_iff_getElem.1 (Ta.keysS_nodup h.kp) i j hi hj hij
    rw [Lib.toList_data, Lib.toList_data, Go.Proofs.bytesLess_eq]
    refine decide_eq_true ?_
    show (Ta.keysS s)[i] < (Ta.keysS s)[j]
    by_cases h3 : (Ta.keysS s)[i] < (Ta.keysS s)[j]
    · exact h3
    · exact absurd (List.le_antisymm h1 (List.not_lt.1 h3)) h2
theorem store_keys (h : Hp o w (storeT T m :: l)) : ∃ E, w.cell? ⟨T, 0, none⟩ = some (.pointer (some ⟨E, 0, none⟩)) ∧ ∀ wb, Below w.heap.size w wb →
    Calls Tryz.prog 18 #[.pointer (some ⟨E, 0, none⟩)] wb fun e w' => ∃ L g c, e = .returned (.slice (some ⟨g, 0, none⟩) L.length c) ∧ KeysOf L m.K ∧ Hp o w' (roT (strsR g L) :: storeT T m :: l) := by
  have h' := h
  obtain ⟨E, U, X, rv, P, f, ev, gn, hr, h⟩ := store_open2 h
  refine ⟨E, h.cell 0 rfl, fun wb hb => ?_⟩
  have h2 := (h.pull 1 rfl).bel hb
  refine h2.say fun {A R} hp _ _ => ?_
  obtain ⟨G1, G2, s, hp, ho⟩ := hp
  refine (Ta.keys_calls wb E G1 G2 s hp.at_ hp.ok.toOk).mono ?_
  rintro e w' ⟨g, c, rfl, hg, hI, hbb⟩
  have hko := keys_of hp (K := m.K) hr.mem (hr.len)
  refine ⟨_, g, c, by rw [List.length_map], hko, ro_made (h'.bel hb) hbb _ fun R hR => ⟨hR g hg hI.1, fun i hi => ?_⟩⟩
  rw [List.length_map] at hi
  rw [hI.2 i hi, List.getElem_map]
end
end Go.Proofs.YtmjlhmohglbecaaGreatDoor.Sa
/- Package store: the statements' alive call. Condition: the library's variables hold what start-up lays. -/
namespace Go.Proofs.YtmjlhmohglbecaaGreatDoor.Sa
set_option linter.unusedVariables false
set_option linter.unusedSimpArgs false
open Go.ChangeShapes Go.WideShapes Go.ChangeAt Go.RowKit
open Sp (Th Hp Stays All Ro roT rowT cellsT exT puT star)
section
variable {o w w' wb : World} {l : List Th} {T : Nat} {m : Md}
/-- Put of ten, told as the model has it. -/
theorem put_ten (h : Hp o w (storeT T m :: l)) (hw : Below w.heap.size w wb) (hok : Ok m) (hc : Ctx o) (k : ByteArray) (hk : k.size ≤ 1000) (now : Int) (hn : m.K.length ≤ 300) (he : m.ev.length ≤ 10000) :
    Calls Tryz.prog 22 #[.pointer (some ⟨T, 0, none⟩), .string k, itV none 0 tenI, .bool false, .int .i64 now] wb fun e w' => e = .returned (.int .i64 (putN k tenI true m)) ∧ Hp o w' (storeT T (putM k tenI false now true m) :: l) :=
  put_calls (item_free (h.bel hw) tenI rfl none 0 (by decide)) (Below.refl _ _) hok hc k hk (by decide) false now true ⟨fun _ => ten_right, fun _ => rfl⟩ hn he
theorem eqE (w : World) (a b : Int) (x y : ByteArray) : (binOp .eql 62 (.agg #[.int .i64 a, .string x]) (.agg #[.int .i64 b, .string y])).run Tryz.prog w = .ok (.bool ((a == b) && (x.toList == y.toList))) w := by
  have hS : Tryz.prog.underlying 62 = some (.struct (Tryz.prog.fieldsOf 62)) := by kernel_rfl
  have hp : Tryz.prog.stoodInHeld 62 = false := by kernel_rfl
  rw [run_eql_struct, show (10000 : Nat) = 9999 + 1 from rfl, run_equalIn_agg w 9999 62 _ _ hS hp]
  have u1 : Tryz.prog.underlying 9 = some .string := by kernel_rfl
  have u2 : Tryz.prog.underlying 3 = some (.int .i64) := by kernel_rfl
  have uM := Tryz.underlying62
  simp only [Program.fieldsOf, uM]
  go_simp
  by_cases h1 : a = b <;> by_cases h2 : x.toList = y.toList <;> simp [h1, h2]
set_option maxHeartbeats 8000000 in
set_option maxRecDepth 100000 in
theorem storeAlive (w : World) (hc : Ctx w) : Calls Tryz.prog 6 #[] w fun e w' => e = .returned (.bool true) ∧ Below w.heap.size w w' := by
  have HN := Lib.hid (new_calls (Hp.nil (Below.refl w.heap.size w)) (Below.refl _ _) 120)
  have HTn := Lib.hid ten_calls
  go_enter Tryz.func6, Tryz.ntmps6
  go_wp2_with fail
  refine HN.out.mono ?_; rintro en w1 ⟨T, rfl, h1⟩
  have H1 := Lib.hid h1
  unfold ptr
  clear h1 HN
  go_wp2_with fail
  refine (HTn.out _).mono ?_; rintro en w2 ⟨rfl, hb⟩
  have HP := Lib.hid (put_ten H1.out hb (Ok.new 120) hc kA (by decide) 0 (by decide) (by decide))
  rw [al_1, put_ok (newM 120) kA (by decide) tenI (by rw [ten_cost]; decide)] at HP
  clear hb H1
  go_wp2_with fail
  refine HP.out.mono ?_; rintro en w3 ⟨rfl, h3⟩
  have H3 := Lib.hid h3
  clear h3 HP
  go_wp2_with fail
  refine (HTn.out _).mono ?_; rintro en w4 ⟨rfl, hb⟩
  have HP := Lib.hid (put_ten H3.out hb Ok.al1 hc kB (by decide) 0 (by decide) (by decide))
  rw [al_2, put_ok al1 kB (by decide) tenI (by rw [ten_cost]; decide)] at HP
  clear hb H3
  go_wp2_with fail
  refine HP.out.mono ?_; rintro en w5 ⟨rfl, h5⟩
  have H5 := Lib.hid h5
  clear h5 HP
  go_wp2_with fail
  refine (HTn.out _).mono ?_; rintro en w6 ⟨rfl, hb⟩
  have HP := Lib.hid (put_ten H5.out hb Ok.al2 hc kC (by decide) 0 (by decide) (by decide))
  rw [al_3, put_ok al2 kC (by decide) tenI (by rw [ten_cost]; decide)] at HP
  clear hb H5 HTn
  go_wp2_with fail
  refine HP.out.mono ?_; rintro en w7 ⟨rfl, h7⟩
  have HE := Lib.hid (events_calls h7 (Below.refl _ _) Ok.al3)
  unfold ptr at HE
  clear h7 HP
  go_wp2_with fail
  refine HE.out.mono ?_; rintro en w8 ⟨v, rfl, h8⟩
  obtain ⟨ea, ec, rfl, -, hec, hea⟩ := h8.rowForm
  obtain ⟨eb, rfl⟩ := hea (by decide)
  have HG := Lib.hid (get_calls (h8.pull 1 rfl) (Below.refl _ _) (Ok.al3.told) hc kA (by decide) 0 (by decide) (by decide))
  rw [end_none (show (toldM al3).S = [] from rfl)] at HG
  unfold ptr at HG
  rw [show Ca.inK kA (toldM al3).K = false from Ca.inK_false.2 (fun h => by
    rcases List.mem_cons.1 h with h | h
    · revert h; decide
    · have := List.mem_singleton.1 h; revert this; decide)] at HG
  have HGG : Hid (getM kA (toldM al3) = toldM al3) := Lib.hid (by
    unfold getM
    rw [show Ca.inK kA (toldM al3).K = false from Ca.inK_false.2 (fun h => by
      rcases List.mem_cons.1 h with h | h
      · revert h; decide
      · have := List.mem_singleton.1 h; revert this; decide), if_neg (by decide)])
  rw [HGG.out] at HG
  clear h8 HE hea
  go_wp2_with fail
  refine HG.out.mono ?_; rintro en w9 ⟨ga, gc, rfl, h9⟩
  have H9 : Hid (Hp w w9 (storeT T (toldM al3) :: evsT (.slice (some ⟨eb, 0, none⟩) 4 ec) al3.ev :: [])) := Lib.hid h9.drop
  clear h9 HG
  rw [show al3.ev.length = 4 from rfl]
  have H10 := Lib.hid fun O => H9.out.bel (Sp.bbox (w := w9) O)
  have he6 := fun O => ((H10.out O).pull 1 rfl).rowCell (j := 6) (by decide)
  have he7 := fun O => ((H10.out O).pull 1 rfl).rowCell (j := 7) (by decide)
  rw [show (cellsE al3.ev)[6]? = some (.int .i64 4) from rfl] at he6
  rw [show (cellsE al3.ev)[7]? = some (.string ⟨#[97]⟩) from rfl] at he7
  obtain ⟨E, c0, hlen⟩ := store_len H9.out
  have c0a := fun O => ((Sp.bbox (w := w9) O).cell (p := ⟨T, 0, none⟩) (World.block_lt_of_cell? w9 _ c0)).trans c0
  have HL := Lib.hid hlen
  have HBy := Lib.hid fun W (hW : Below w9.heap.size w9 W) => bytes_calls H9.out hW
  have hsum : sumB (toldM al3).f (toldM al3).K = 118 := al_sum3
  rw [hsum] at HBy
  unfold ptr at HBy
  have HL : Hid (∀ wb, Below w9.heap.size w9 wb → Calls Tryz.prog 11 #[.pointer (some ⟨E, 0, none⟩)] wb fun e w' => e = .returned (.int .i64 2) ∧ ∃ n, w' = wb.drewN n) := HL
  have HBy : Hid (∀ W, Below w9.heap.size w9 W → Calls Tryz.prog 12 #[.pointer (some ⟨T, 0, none⟩)] W fun e w' => e = .returned (.int .i64 118) ∧ W = w') := HBy
  have heq := eqE
  unfold itV
  have HBel := Lib.hid H9.out.below
  clear hlen hsum c0 H10
  go_wp2_with fail
  refine (HL.out _ (Sp.bbox _)).mono ?_; rintro en w10 ⟨rfl, n, rfl⟩
  go_wp2_with fail
  refine (HBy.out _ ((Sp.bbox _).trans (Ta.drewN_below _ n |>.mono (Sp.bbox _).size))).mono ?_; rintro en w11 ⟨rfl, rfl⟩
  go_wp2_with fail
  go_ret
  exact ⟨rfl, HBel.out.trans (((Sp.bbox (w := w9) _).trans ((Ta.drewN_below _ n).mono (Sp.bbox _).size)).mono HBel.out.size)⟩
end
end Go.Proofs.YtmjlhmohglbecaaGreatDoor.Sa
/- Acts that came in; the statements' great. No condition. -/
namespace Go.Proofs.YtmjlhmohglbecaaGreatDoor.Sa
set_option linter.unusedVariables false
set_option linter.unusedSimpArgs false
open Go.ChangeShapes Go.WideShapes Go.ChangeAt Go.RowKit
open Sp (Th Hp Stays All Ro roT rowT cellsT exT puT star)
/-- An act; where its item's fields lie. -/
structure Ac where
  kd : Int
  n : Int
  k : ByteArray
  i : Ia.It
  a : Option Addr
  c : Nat
  kp : Bool
  wh : Int
  wt : Nat
def cells9 (q : Ac) : List Value := [.int .i64 q.kd, .int .i64 q.n, .string q.k, .int .i64 q.i.k, .string q.i.t, .slice q.a q.i.l.length q.c, .bool q.kp, .int .i64 q.wh, .int .u16 q.wt]
/-- Acts as they lie. -/
def InA (W : World) (a : Option Addr) (l : List Ac) : Prop := 0 < l.length → ∃ b o, a = some ⟨b, o, none⟩ ∧ b < W.heap.size ∧ ∀ i (h : i < l.length), (∀ j (hj : j < 9), W.cell? ⟨b, o + i * 9 + j, none⟩ = some ((cells9 l[i])[j]'(by show j < 9; exact hj))) ∧ Ia.InF W l[i].a l[i].i.l ∧ l[i].i.l.length ≤ l[i].c ∧ l[i].c ≤ 9223372036854775807
theorem InA.below {B : Nat} {w w' : World} {a : Option Addr} {l : List Ac} (h : InA w a l) (hB : w.heap.size ≤ B) (hb : Below B w w') : InA w' a l := fun hp => by
  obtain ⟨b, o, rfl, hlt, hc⟩ := h hp
  refine ⟨b, o, rfl, Nat.lt_of_lt_of_le hlt hb.size, fun i hi => ⟨fun j hj => ?_, (hc i hi).2.1.below hB hb, (hc i hi).2.2⟩⟩
  have e : w'.cell? ⟨b, o + i * 9 + j, none⟩ = w.cell? ⟨b, o + i * 9 + j, none⟩ := hb.cell (p := ⟨b, o + i * 9 + j, none⟩) (Nat.lt_of_lt_of_le hlt hB)
  rw [e]
  exact (hc i hi).1 j hj
/-- The nine cells of an act, one by one. -/
theorem InA.at_ {w : World} {b o : Nat} {l : List Ac} {i : Nat} (hi : i < l.length) (h : ∀ j (hj : j < 9), w.cell? ⟨b, o + i * 9 + j, none⟩ = some ((cells9 l[i])[j]'(by show j < 9; exact hj))) :
    w.cell? ⟨b, o + i * 9, none⟩ = some (.int .i64 l[i].kd) ∧ w.cell? ⟨b, o + i * 9 + 1, none⟩ = some (.int .i64 l[i].n) ∧ w.cell? ⟨b, o + i * 9 + 2, none⟩ = some (.string l[i].k) ∧ w.cell? ⟨b, o + i * 9 + 3, none⟩ = some (.int .i64 l[i].i.k) ∧ w.cell? ⟨b, o + i * 9 + 4, none⟩ = some (.string l[i].i.t) ∧ w.cell? ⟨b, o + i * 9 + 5, none⟩ = some (.slice l[i].a l[i].i.l.length l[i].c) ∧ w.cell? ⟨b, o + i * 9 + 6, none⟩ = some (.bool l[i].kp) ∧ w.cell? ⟨b, o + i * 9 + 7, none⟩ = some (.int .i64 l[i].wh) ∧ w.cell? ⟨b, o + i * 9 + 8, none⟩ = some (.int .u16 l[i].wt) :=
  ⟨h 0 (by decide), h 1 (by decide), h 2 (by decide), h 3 (by decide), h 4 (by decide), h 5 (by decide), h 6 (by decide), h 7 (by decide), h 8 (by decide)⟩
/-- An act that is looked at. -/
def okA1 (q : Ac) : Prop := q.k.size ≤ 600 ∧ q.i.t.size ≤ 5000 ∧ q.i.l.length ≤ 20 ∧ ∀ j (h : j < q.i.l.length), q.i.l[j].1.size ≤ 600 ∧ q.i.l[j].2.size ≤ 5000
def okA (l : List Ac) : Prop := l.length ≤ 80 ∧ ∀ i (h : i < l.length), okA1 l[i]
set_option maxHeartbeats 8000000 in
set_option maxRecDepth 100000 in
theorem great_calls (w : World) (a : Option Addr) (c n : Nat) (l : List Ac) (hn : n = l.length) (hI : InA w a l) :
    Calls Tryz.prog 7 #[.slice a n c] w fun e w' => (e = .returned (.bool true) ∨ (e = .returned (.bool false) ∧ okA l)) ∧ Below w.heap.size w w' := by
  subst hn
  have HI := Lib.hid hI
  clear hI
  go_enter Tryz.func7, Tryz.ntmps7
  by_cases hl : 80 < l.length
  · have hlc : (80 : Int) < (l.length : Int) := by omega
    go_wp2_with fail
    go_ret
    exact ⟨.inl rfl, Below.refl _ _⟩
  · have hlc : ¬ (80 : Int) < (l.length : Int) := by omega
    go_wp2_with fail
    go_loopg [4, 6, 12, 13, 14, 15, 16, 17, 18, 19, 20, 21, 22, 23, 24, 25, 26, 27, 28, 29, 30, 31, 32, 33, 34, 35, 36, 37, 38, 39, 40, 41, 42, 43, 44, 45, 46, 47, 48, 49, 50, 51, 52, 53] (l.length + 1) (fun g _ _ vi _ _ _ _ _ _ _ _ _ _ _ _ _ _ _ _ _ _ _ _ _ _ _ _ _ _ _ _ _ _ _ _ _ _ _ _ _ _ _ _ _ wr => ∃ i : Nat, vi = .int .i64 i ∧ i ≤ l.length ∧ l.length - i ≤ g ∧ Hid (∀ j (h : j < l.length), j < i → okA1 l[j]) ∧ Hid (Below w.heap.size w wr))
    case atStart => exact ⟨0, rfl, by omega, by omega, Lib.hid (fun _ _ h => absurd h (Nat.not_lt_zero _)), Lib.hid (Below.refl _ _)⟩
    case round =>
      obtain ⟨i, rfl, hi, hg, HK, HB⟩ := hrel
      by_cases hil : i < l.length
      case neg =>
        have hic : ¬ ((i : Int) < (l.length : Int)) := by omega
        go_wp2_with fail
        go_ret
        exact ⟨.inr ⟨rfl, by omega, fun j hj => HK.out j hj (by omega)⟩, HB.out⟩
      case pos =>
        have hic : (i : Int) < (l.length : Int) := by omega
        obtain ⟨b, o, rfl, hlt, hc⟩ := (HI.out.below (Nat.le_refl _) HB.out) (by omega)
        obtain ⟨hc1, hf, hfc, hcc⟩ := hc i hil
        obtain ⟨c0, c1, c2, c3, c4, c5, c6, c7, c8⟩ := InA.at_ hil hc1
        have HB2 := Lib.hid (fun O => Sp.bstep HB.out (Sp.bbox (w := wr) O))
        have HF := Lib.hid (fun O => hf.below (Nat.le_refl _) (Sp.bbox (w := wr) O))
        have HKn : Hid (okA1 l[i] → ∀ j (h : j < l.length), j < i + 1 → okA1 l[j]) := Lib.hid (fun h1 j h hj => by
          by_cases hji : j = i
          · subst hji; exact h1
          · exact HK.out j h (by omega))
        clear hc hc1 hf hlt
        generalize l[i] = q at *
        obtain ⟨kd, nn, k, it, fa, fc, kp, wh, wt⟩ := q
        simp only at c0 c1 c2 c3 c4 c5 c6 c7 c8 HF hfc hcc
        by_cases h1 : 600 < k.size
        · have h1c : (600 : Int) < (k.size : Int) := by omega
          go_wp2_with fail
          go_ret
          exact ⟨.inl rfl, HB2.out _⟩
        have h1c : ¬ (600 : Int) < (k.size : Int) := by omega
        by_cases h2 : 5000 < it.t.size
        · have h2c : (5000 : Int) < (it.t.size : Int) := by omega
          go_wp2_with fail
          go_ret
          exact ⟨.inl rfl, HB2.out _⟩
        have h2c : ¬ (5000 : Int) < (it.t.size : Int) := by omega
        by_cases h3 : 20 < it.l.length
        · have h3c : (20 : Int) < (it.l.length : Int) := by omega
          go_wp2_with fail
          go_ret
          exact ⟨.inl rfl, HB2.out _⟩
        have h3c : ¬ (20 : Int) < (it.l.length : Int) := by omega
        go_wp2_with fail
        obtain ⟨wo, hwo⟩ : ∃ wo : World, wo = wr.alloc (.cells #[.int .i64 kd, .int .i64 nn, .string k, .int .i64 it.k, .string it.t, .slice fa it.l.length fc, .bool kp, .int .i64 wh, .int .u16 wt] 34) := ⟨_, rfl⟩
        have HBo : Hid (Below w.heap.size w wo) := Lib.hid (by rw [hwo]; exact HB2.out _)
        have HFo : Hid (Ia.InF wo fa it.l) := Lib.hid (by rw [hwo]; exact HF.out _)
        rw [← hwo]
        clear hwo c0 c1 c2 c3 c4 c5 c6 c7 c8
        generalize wr.heap.size = bx at *
        obtain ⟨gO, rfl⟩ : ∃ gO : Nat, gO = gk := ⟨_, rfl⟩
        go_loopg [6, 38, 39, 40, 41, 42, 43, 44, 45, 46, 47, 48, 49, 50, 51, 52] (it.l.length + 1) (fun g2 _ vj _ _ _ _ _ _ _ _ _ _ _ _ _ _ wr => ∃ j : Nat, vj = .int .i64 j ∧ j ≤ it.l.length ∧ it.l.length - j ≤ g2 ∧ Hid (∀ x (h : x < it.l.length), x < j → it.l[x].1.size ≤ 600 ∧ it.l[x].2.size ≤ 5000) ∧ Hid (Below wo.heap.size wo wr))
        case atStart => exact ⟨0, rfl, by omega, by omega, Lib.hid (fun _ _ h => absurd h (Nat.not_lt_zero _)), Lib.hid (Below.refl _ _)⟩
        case round =>
          obtain ⟨j, rfl, hj, hg2, HK2, HBr⟩ := hrel
          by_cases hjl : j < it.l.length
          case neg =>
            have hjc : ¬ ((j : Int) < (it.l.length : Int)) := by omega
            have HKd := Lib.hid (HKn.out ⟨by show k.size ≤ 600; omega, by show it.t.size ≤ 5000; omega, by show it.l.length ≤ 20; omega, fun x hx => HK2.out x hx (by have : x < it.l.length := hx; omega)⟩)
            have HBz := Lib.hid (Sp.bstep HBo.out HBr.out)
            clear HKn HK2
            go_wp2_with fail
            go_roundg (gO - 1)
            case measure => omega
            case rel => exact ⟨i + 1, by go_num, by omega, by omega, HKd, HBz⟩
          case pos =>
            have hjc : (j : Int) < (it.l.length : Int) := by omega
            obtain ⟨fb, fo, rfl, hflt, hfcs⟩ := (HFo.out.below (Nat.le_refl _) HBr.out) (by omega)
            obtain ⟨d0, d1⟩ := hfcs j hjl
            have HB3 := Lib.hid (fun O => Sp.bstep HBr.out (Sp.bbox (w := wr) O))
            have HK3 : Hid (it.l[j].1.size ≤ 600 → it.l[j].2.size ≤ 5000 → ∀ x (h : x < it.l.length), x < j + 1 → it.l[x].1.size ≤ 600 ∧ it.l[x].2.size ≤ 5000) := Lib.hid (fun k1 k2 x h hx => by
              by_cases hxj : x = j
              · subst hxj; exact ⟨k1, k2⟩
              · exact HK2.out x h (by omega))
            clear hfcs hflt HK2
            generalize it.l[j] = f at *
            obtain ⟨fx, fy⟩ := f
            have d0 : wr.cell? ⟨fb, fo + j * 2, none⟩ = some (.string fx) := d0
            have d1 : wr.cell? ⟨fb, fo + j * 2 + 1, none⟩ = some (.string fy) := d1
            by_cases h4 : 600 < fx.size
            · have h4c : (600 : Int) < (fx.size : Int) := by omega
              go_wp2_with fail
              go_ret
              exact ⟨.inl rfl, Sp.bstep HBo.out (HB3.out _)⟩
            have h4c : ¬ (600 : Int) < (fx.size : Int) := by omega
            by_cases h5 : 5000 < fy.size
            · have h5c : (5000 : Int) < (fy.size : Int) := by omega
              go_wp2_with fail
              go_ret
              exact ⟨.inl rfl, Sp.bstep HBo.out (HB3.out _)⟩
            have h5c : ¬ (5000 : Int) < (fy.size : Int) := by omega
            have HK4 := Lib.hid (HK3.out (by show fx.size ≤ 600; omega) (by show fy.size ≤ 5000; omega))
            go_wp2_with fail
            go_roundg (gk - 1)
            case measure => omega
            case rel => exact ⟨j + 1, by go_num, by omega, by omega, HK4, Lib.hid (HB3.out _)⟩
end Go.Proofs.YtmjlhmohglbecaaGreatDoor.Sa
/- StoreOne. Condition: the library's variables hold what start-up lays. -/
namespace Go.Proofs.YtmjlhmohglbecaaGreatDoor.Sa
set_option linter.unusedVariables false
set_option linter.unusedSimpArgs false
open Go.ChangeShapes Go.WideShapes Go.ChangeAt Go.RowKit
open Sp (Th Hp Stays All Ro roT rowT cellsT exT puT star)
/-- One key, and when it ends. -/
def on (i : Ia.It) (S : List Ea.Du) (ev : List (Int × ByteArray)) : Md := ⟨[(ByteArray.mk #[107])], updF (newM 100000000).f (ByteArray.mk #[107]) i, S, 100000000, ev⟩
theorem on_f (i : Ia.It) (S ev) : (on i S ev).f (ByteArray.mk #[107]) = i := updF_same (newM 100000000).f (ByteArray.mk #[107]) i
theorem on_in (i : Ia.It) (S ev) : Ca.inK (ByteArray.mk #[107]) (on i S ev).K = true := by show Ca.inK (ByteArray.mk #[107]) [(ByteArray.mk #[107])] = true; decide
theorem on_put {i : Ia.It} (hr : Ia.RightP i) (now : Int) : putM (ByteArray.mk #[107]) i false now true (newM 100000000) = on i [] [(1, (ByteArray.mk #[107]))] ∧ putN (ByteArray.mk #[107]) i true (newM 100000000) = 0 := by
  have hc := costN_le (k := (ByteArray.mk #[107])) (by decide) hr
  refine ⟨?_, put_ok _ _ (by decide) _ (by show _ ≤ (100000000 : Int); omega)⟩
  rw [put_room rfl List.nodup_nil (by simp [newM]) (by decide)]
  · rfl
  · show (((sumB _ [] : Nat) : Int) + costN (ByteArray.mk #[107]) i) ≤ 100000000
    simp [sumB]; omega
theorem on_ttl (i : Ia.It) (ev) (now : Int) : ttlN (ByteArray.mk #[107]) now (on i [] ev) = -1 := by
  unfold ttlN
  rw [on_in, if_pos rfl]
  rfl
theorem inD1 (e : Int) : Ea.inD (ByteArray.mk #[107]) [(e, (ByteArray.mk #[107]))] = true := by simp [Ea.inD]
theorem getD1 (e : Int) : Ea.getD (ByteArray.mk #[107]) [(e, (ByteArray.mk #[107]))] = e := by simp [Ea.getD]
theorem on_ttl2 (i : Ia.It) (ev) (e now : Int) : ttlN (ByteArray.mk #[107]) now (on i [(e, (ByteArray.mk #[107]))] ev) = e - now := by
  unfold ttlN
  rw [on_in, if_pos rfl, show (on i [(e, (ByteArray.mk #[107]))] ev).S = [(e, (ByteArray.mk #[107]))] from rfl, inD1, getD1, if_pos rfl]
theorem on_end {i : Ia.It} {ev} {e now : Int} (h : now < e) : endM (ByteArray.mk #[107]) now (on i [(e, (ByteArray.mk #[107]))] ev) = on i [(e, (ByteArray.mk #[107]))] ev := by
  unfold endM endsM
  rw [show (on i [(e, (ByteArray.mk #[107]))] ev).S = [(e, (ByteArray.mk #[107]))] from rfl, inD1, getD1, decide_eq_false (by omega : ¬ e ≤ now)]
  rfl
def off (i : Ia.It) (ev : List (Int × ByteArray)) : Md := ⟨[], updF (newM 100000000).f (ByteArray.mk #[107]) i, [], 100000000, ev⟩
theorem on_end2 {i : Ia.It} {ev} {e now : Int} (h : e ≤ now) : endM (ByteArray.mk #[107]) now (on i [(e, (ByteArray.mk #[107]))] ev) = off i (ev ++ [(3, (ByteArray.mk #[107]))]) := by
  unfold endM endsM
  rw [show (on i [(e, (ByteArray.mk #[107]))] ev).S = [(e, (ByteArray.mk #[107]))] from rfl, inD1, getD1, decide_eq_true h]
  show loseM (ByteArray.mk #[107]) 3 (on i [(e, (ByteArray.mk #[107]))] ev) = _
  unfold loseM
  have h1 : Ca.dropK (ByteArray.mk #[107]) [(ByteArray.mk #[107])] = [] := by decide
  have h2 : Ea.dropD (ByteArray.mk #[107]) [(e, (ByteArray.mk #[107]))] = [] := by simp [Ea.dropD]
  show Md.mk (Ca.dropK (ByteArray.mk #[107]) [(ByteArray.mk #[107])]) _ (Ea.dropD (ByteArray.mk #[107]) [(e, (ByteArray.mk #[107]))]) _ _ = _
  rw [h1, h2]
  rfl
theorem on_exp {i : Ia.It} {ev} {e now : Int} (h : now < e) (h0 : 0 ≤ now) (h1 : e ≤ 4611686018427387904) : expireM (ByteArray.mk #[107]) e now (on i [] ev) = on i [(e, (ByteArray.mk #[107]))] (ev ++ [(1, (ByteArray.mk #[107]))]) := by
  unfold expireM
  rw [end_none (show (on i [] ev).S = [] from rfl), if_neg (by omega), on_in, if_pos rfl, Int.min_eq_left h1]
  rfl
theorem on_per {i : Ia.It} {ev} {e now : Int} (h : now < e) : persistM (ByteArray.mk #[107]) now (on i [(e, (ByteArray.mk #[107]))] ev) = on i [] (ev ++ [(1, (ByteArray.mk #[107]))]) := by
  unfold persistM
  rw [on_end h, show (on i [(e, (ByteArray.mk #[107]))] ev).S = [(e, (ByteArray.mk #[107]))] from rfl, inD1, if_pos rfl]
  unfold undueM
  have h2 : Ea.dropD (ByteArray.mk #[107]) [(e, (ByteArray.mk #[107]))] = [] := by simp [Ea.dropD]
  show Md.mk _ _ (Ea.dropD (ByteArray.mk #[107]) [(e, (ByteArray.mk #[107]))]) _ _ = _
  rw [h2]
  rfl
theorem on_get (i : Ia.It) (S ev) : getM (ByteArray.mk #[107]) (on i S ev) = on i S ev ∧ gotI (ByteArray.mk #[107]) (on i S ev) = i := by
  unfold getM gotI
  rw [on_in, if_pos rfl, if_pos rfl]
  have h1 : Ca.touchK (ByteArray.mk #[107]) [(ByteArray.mk #[107])] = [(ByteArray.mk #[107])] := by decide
  refine ⟨?_, on_f i S ev⟩
  show Md.mk (Ca.touchK (ByteArray.mk #[107]) [(ByteArray.mk #[107])]) _ _ _ _ = _
  rw [h1]
  rfl
theorem off_get (i : Ia.It) (ev) : getM (ByteArray.mk #[107]) (off i ev) = off i ev ∧ gotI (ByteArray.mk #[107]) (off i ev) = zeroI ∧ Ca.inK (ByteArray.mk #[107]) (off i ev).K = false := ⟨rfl, rfl, rfl⟩
theorem ro_old {o w : World} {l : List Th} (h : Hp o w l) (r : Ro) (hr : ∀ R, (∀ x, x < o.heap.size → R x) → r.P R w) : Hp o w (roT r :: l) := by
  obtain ⟨O, R, h1, h2, h3, h4, h5⟩ := h
  exact ⟨O, R, ⟨fun _ => False, O, ⟨fun _ h => h, hr R h4⟩, h1, fun _ h => h.elim, fun x => by simp⟩, h2, h3, h4, h5⟩
theorem ro_dup {o w : World} {l : List Th} {r : Ro} (h : Hp o w (roT r :: l)) : Hp o w (roT r :: roT r :: l) := by
  obtain ⟨O, R, ⟨A, B, ⟨h0, h1⟩, h2, h3, h4⟩, h5⟩ := h
  exact ⟨O, R, ⟨fun _ => False, O, ⟨fun _ h => h, h1⟩, ⟨A, B, ⟨h0, h1⟩, h2, h3, h4⟩, fun _ h => h.elim, fun x => by simp⟩, h5⟩
/-- An item that came in. -/
theorem item_came {w : World} {a : Option Addr} {c : Nat} {i : Ia.It} (h1 : i.l.length ≤ c) (h2 : c ≤ 9223372036854775807) (h3 : Ia.InF w a i.l) : Hp w w [roT (itemR a c i)] :=
  ro_old (Hp.nil (Below.refl _ _)) _ fun R hR => ⟨h1, h2, fun hp => by
    obtain ⟨b, o, e, hlt, hc⟩ := h3 hp
    exact ⟨b, o, e, hR b hlt, hc⟩⟩
/-- The one act that the statement makes of an item. -/
theorem InA.one {w : World} {i : Ia.It} {a : Option Addr} {c : Nat} (hI : Ia.InF w a i.l) (h1 : i.l.length ≤ c) (h2 : c ≤ 9223372036854775807) (T : TypeId) :
    InA (w.alloc (.cells #[.int .i64 0, .int .i64 0, .string ⟨#[]⟩, .int .i64 i.k, .string i.t, .slice a i.l.length c, .bool false, .int .i64 0, .int .u16 0] T)) (some ⟨w.heap.size, 0, none⟩) [⟨0, 0, ⟨#[]⟩, i, a, c, false, 0, 0⟩] := fun _ => by
  refine ⟨w.heap.size, 0, rfl, by simp, fun j hj => ?_⟩
  obtain rfl : j = 0 := by simpa using hj
  refine ⟨fun r hr => ?_, hI.below (Nat.le_refl _) (Sp.bbox _), h1, h2⟩
  rw [show 0 + 0 * 9 + r = r by omega, World.cell?_alloc_new]
  simp only [List.getElem_cons_zero, cells9]
  match r, hr with
  | 0, _ => rfl
  | 1, _ => rfl
  | 2, _ => rfl
  | 3, _ => rfl
  | 4, _ => rfl
  | 5, _ => rfl
  | 6, _ => rfl
  | 7, _ => rfl
  | 8, _ => rfl
end Go.Proofs.YtmjlhmohglbecaaGreatDoor.Sa
/- StoreSweeps, plain: dues that are put one by one; what Sweep lets go. No program, no condition. -/
namespace Go.Proofs.YtmjlhmohglbecaaGreatDoor.Sa
set_option linter.unusedVariables false
set_option linter.unusedSimpArgs false
open Ea (Du ltE UpD insD dropD putD dueD inD getD)
open Sp (setG setG_same setG_ne)
/-- A store of tens, each of which ends as g says. -/
structure SwI (m : Md) (g : ByteArray → Option Int) (n : Nat) : Prop where
  ok : Ok m
  kg : ∀ k, k ∈ m.K ↔ (g k).isSome = true
  sg : ∀ t k, (t, k) ∈ m.S ↔ g k = some t
  tn : ∀ k ∈ m.K, m.f k = tenI ∧ k.size ≤ 100
  w1 : ∀ d ∈ m.S, 1 ≤ d.1 ∧ d.1 ≤ 1000000
  b : m.b = 100000000
  n : m.K.length = n
theorem end_pos {m : Md} (hp : Pre m) (h : ∀ d ∈ m.S, 1 ≤ d.1) (k : ByteArray) : endM k 0 m = m := by
  unfold endM
  rw [if_neg]
  intro he
  unfold endsM at he
  rw [Bool.and_eq_true] at he
  have h1 := h _ (getD_mem he.1)
  have h2 := of_decide_eq_true he.2
  omega
theorem sumB_le {f : ByteArray → Ia.It} : ∀ {K : List ByteArray}, (∀ k ∈ K, f k = tenI ∧ k.size ≤ 100) → sumB f K ≤ 158 * K.length
  | [], _ => Nat.zero_le _
  | k :: K, h => by
    have h1 := h k (List.mem_cons_self ..)
    have h2 := sumB_le (K := K) fun x hx => h x (List.mem_cons_of_mem _ hx)
    rw [sumB_cons, h1.1, ten_cost, List.length_cons]
    have := h1.2
    omega
theorem SwI.new : SwI (newM 100000000) (fun _ => none) 0 :=
  ⟨Ok.new _, fun k => ⟨fun h => (by cases h), fun h => (by cases h)⟩, fun t k => ⟨fun h => (by cases h), fun h => (by cases h)⟩, fun k h => (by cases h), fun k h => (by cases h), rfl, rfl⟩
theorem SwI.put {m : Md} {g : ByteArray → Option Int} {n : Nat} (h : SwI m g n) (k : ByteArray) (hk : k.size ≤ 100) (hn : n ≤ 30) : putM k tenI false 0 true m = setM k tenI false m ∧ putN k tenI true m = 0 := by
  have hc : ((costN k tenI : Nat) : Int) ≤ m.b := by rw [ten_cost, h.b]; omega
  refine ⟨?_, put_ok m k (by omega) tenI hc⟩
  unfold putM
  rw [if_neg (by rintro (h | h); omega; cases h), end_pos h.ok.toPre (fun d hd => (h.w1 d hd).1), if_neg (by omega)]
  refine evF_stop (.inl ?_) _
  show ((sumB (updF m.f k tenI) (Ca.touchK k m.K) : Nat) : Int) ≤ m.b
  have h1 := sumB_le (f := updF m.f k tenI) (K := Ca.touchK k m.K) fun x hx => by
    rcases mem_touchK.1 hx with e | e
    · subst e; exact ⟨updF_same _ _ _, hk⟩
    · by_cases e2 : x = k
      · subst e2; exact ⟨updF_same _ _ _, hk⟩
      · rw [updF_ne e2]; exact h.tn x e
  have h2 := touch_le k m.K
  rw [h.n] at h2
  rw [h.b]
  omega
theorem SwI.due {m : Md} {g : ByteArray → Option Int} {n : Nat} (h : SwI m g n) (k : ByteArray) (hk : k.size ≤ 100) (t : Int) (ht : 1 ≤ t) (ht2 : t ≤ 1000000) : expireM k t 0 (setM k tenI false m) = dueM k t (setM k tenI false m) := by
  have hp := h.ok.toPre.set k (by omega) tenI ten_right false
  have h1 : ∀ d ∈ (setM k tenI false m).S, 1 ≤ d.1 := fun d hd => (h.w1 d (Ea.mem_dropD.1 (show d ∈ dropD k m.S from hd)).1).1
  unfold expireM
  rw [if_neg (by omega), end_pos hp h1, Int.min_eq_left (by omega), if_pos]
  exact Ca.inK_iff.2 (mem_touchK.2 (.inl rfl))
theorem SwI.step {m : Md} {g : ByteArray → Option Int} {n : Nat} (h : SwI m g n) (k : ByteArray) (hk : k.size ≤ 100) (hn : n ≤ 30) (t : Int) (ht : 1 ≤ t) (ht2 : t ≤ 1000000) : Ok (setM k tenI false m) ∧ SwI (dueM k t (setM k tenI false m)) (setG g k (some t)) (n + if (g k).isSome = true then 0 else 1) := by
  have hok : Ok (setM k tenI false m) := by rw [← (h.put k hk hn).1]; exact h.ok.putM k tenI false 0 true fun _ => ten_right
  have hs : (dueM k t (setM k tenI false m)).S = putD k t (dropD k m.S) := rfl
  have hK : (dueM k t (setM k tenI false m)).K = Ca.touchK k m.K := rfl
  have hf : (dueM k t (setM k tenI false m)).f = updF m.f k tenI := rfl
  have hin : ∀ d, d ∈ putD k t (dropD k m.S) ↔ d = (t, k) ∨ d ∈ m.S ∧ d.2 ≠ k := fun d => by
    unfold putD
    rw [Ea.mem_insD, Ea.mem_dropD, Ea.mem_dropD]
    exact ⟨fun h => h.imp id fun h => h.1, fun h => h.imp id fun h => ⟨h, h.2⟩⟩
  refine ⟨hok, hok.due (mem_touchK.2 (.inl rfl)) (by omega) (by omega), fun x => ?_, fun u x => ?_, fun x hx => ?_, fun d hd => ?_, h.b, ?_⟩
  · rw [hK, mem_touchK]
    unfold setG
    by_cases e : x = k
    · rw [if_pos e]; exact ⟨fun _ => rfl, fun _ => .inl e⟩
    · rw [if_neg e, ← h.kg]; exact ⟨fun h => h.resolve_left e, .inr⟩
  · rw [hs, hin]
    unfold setG
    by_cases e : x = k
    · subst e
      rw [if_pos rfl]
      constructor
      · rintro (h1 | h1)
        · injection h1 with h1 _; rw [h1]
        · exact absurd rfl h1.2
      · intro h1
        exact .inl (by rw [Option.some.inj h1])
    · rw [if_neg e, ← h.sg]
      constructor
      · rintro (h1 | h1)
        · injection h1 with _ h1; exact absurd h1 e
        · exact h1.1
      · exact fun h1 => .inr ⟨h1, e⟩
  · rw [hK] at hx
    rw [hf]
    by_cases e2 : x = k
    · subst e2; exact ⟨updF_same _ _ _, hk⟩
    · rw [updF_ne e2]
      exact h.tn x ((mem_touchK.1 hx).resolve_left e2)
  · rw [hs] at hd
    rcases (hin d).1 hd with e | e
    · rw [e]; exact ⟨ht, ht2⟩
    · exact h.w1 d e.1
  · rw [hK]
    by_cases e : k ∈ m.K
    · rw [touchK_len h.ok.kn e, h.n, if_pos ((h.kg k).1 e)]; rfl
    · rw [touchK_permNo e, List.length_append, h.n, if_neg (fun hh => e ((h.kg k).2 hh))]; rfl
theorem SwI.told {m : Md} {g : ByteArray → Option Int} {n : Nat} (h : SwI m g n) : SwI (toldM m) g n := ⟨h.ok.told, h.kg, h.sg, h.tn, h.w1, h.b, h.n⟩
theorem lose_all : ∀ {D : List ByteArray} {m : Md}, m.K.Nodup → D.Nodup → (∀ k ∈ D, k ∈ m.K) → (swM D m).ev = m.ev ++ D.map (fun k => ((3 : Int), k)) ∧ (swM D m).K.length + D.length = m.K.length
  | [], m, _, _, _ => ⟨by simp [swM], rfl⟩
  | k :: D, m, hK, hD, hm => by
    have hk := hm k (List.mem_cons_self ..)
    have hD2 := List.nodup_cons.1 hD
    have hg : goneM k 3 m = loseM k 3 m := by
      unfold goneM
      rw [Ca.inK_iff.2 hk]; rfl
    have ih := lose_all (D := D) (m := loseM k 3 m) (Ca.dropK_nodup hK) hD2.2 fun x hx => Ca.mem_dropK.2 ⟨hm x (List.mem_cons_of_mem _ hx), fun e => hD2.1 (e ▸ hx)⟩
    have h1 := dropK_lenM hK hk
    unfold swM
    rw [hg]
    refine ⟨?_, ?_⟩
    · rw [ih.1]
      show (m.ev ++ [(3, k)]) ++ _ = _
      simp
    · have h2 := ih.2
      have h3 : (loseM k 3 m).K.length = (Ca.dropK k m.K).length := rfl
      rw [List.length_cons]
      omega
/-- The dues that Sweep lets go. -/
structure SwP (S P : List Du) (now most : Int) : Prop where
  ins : ∀ d ∈ P, d ∈ S ∧ d.1 ≤ now
  up : UpD P
  kn : (P.map (·.2)).Nodup
  rest : ∀ d ∈ S, d ∉ P → ((P.length : Int) < most → now < d.1) ∧ ∀ x ∈ P, x.1 ≤ d.1
  most_ : (P.length : Int) ≤ max most 0
theorem ltE_le {a b : Du} (h : ltE a b = true) : a.1 ≤ b.1 := by
  rcases Ea.ltE_iff.1 h with h | h
  · omega
  · omega
theorem SwP.of {S : List Du} (hu : UpD S) (hn : (S.map (·.2)).Nodup) (now most : Int) : SwP S (dueD now most.toNat S) now most := by
  unfold dueD
  have hF : UpD (S.filter fun d => decide (d.1 ≤ now)) := List.Pairwise.filter _ hu
  have hs : List.Sublist ((S.filter fun d => decide (d.1 ≤ now)).take most.toNat) S := (List.take_sublist ..).trans List.filter_sublist
  refine ⟨fun d hd => ?_, hF.sublist (List.take_sublist ..), hn.sublist (hs.map _), fun d hd hnp => ⟨fun hl => ?_, fun x hx => ?_⟩, ?_⟩
  · have := List.mem_filter.1 (List.mem_of_mem_take hd)
    exact ⟨this.1, by simpa using this.2⟩
  · by_cases hle : d.1 ≤ now
    · have hdf : d ∈ S.filter fun d => decide (d.1 ≤ now) := List.mem_filter.2 ⟨hd, by simpa using hle⟩
      exfalso
      apply hnp
      rw [List.length_take] at hl
      rw [List.take_of_length_le (by omega)]
      exact hdf
    · omega
  · by_cases hle : d.1 ≤ now
    · have hdf : d ∈ S.filter fun d => decide (d.1 ≤ now) := List.mem_filter.2 ⟨hd, by simpa using hle⟩
      generalize S.filter (fun d => decide (d.1 ≤ now)) = F at *
      rw [← List.take_append_drop most.toNat F] at hdf hF
      rcases List.mem_append.1 hdf with h | h
      · exact absurd h hnp
      · exact ltE_le ((List.pairwise_append.1 hF).2.2 x hx d h)
    · have := List.mem_filter.1 (List.mem_of_mem_take hx)
      have h2 : x.1 ≤ now := by simpa using this.2
      omega
  · rw [List.length_take]
    omega
/-- What the map says behind so many events. -/
def gdP (g : ByteArray → Option Int) (P : List Du) (j : Nat) : ByteArray → Option Int := fun k => if inD k (P.take j) = true then none else g k
theorem gdP_zero (g : ByteArray → Option Int) (P : List Du) : gdP g P 0 = g := by
  funext k
  unfold gdP
  rw [List.take_zero, if_neg (by simp [inD])]
theorem inD_app (k : ByteArray) (A B : List Du) : inD k (A ++ B) = (inD k A || inD k B) := by unfold inD; rw [List.any_append]
theorem gdP_succ (g : ByteArray → Option Int) (P : List Du) {j : Nat} (hj : j < P.length) : setG (gdP g P j) P[j].2 none = gdP g P (j + 1) := by
  funext k
  unfold gdP setG
  rw [← List.take_append_getElem hj, inD_app]
  have h1 : inD k [P[j]] = decide (P[j].2 = k) := by simp [inD]
  rw [h1]
  by_cases e : k = P[j].2
  · rw [if_pos e, if_pos]
    rw [decide_eq_true e.symm, Bool.or_true]
  · rw [if_neg e, decide_eq_false (fun h => e h.symm), Bool.or_false]
theorem gdP_at {m : Md} {g : ByteArray → Option Int} {n : Nat} (h : SwI m g n) {P : List Du} {now most : Int} (hP : SwP m.S P now most) {j : Nat} (hj : j < P.length) : gdP g P j P[j].2 = some P[j].1 := by
  unfold gdP
  rw [if_neg]
  · exact (h.sg _ _).1 (hP.ins _ (List.getElem_mem hj)).1
  · intro hm
    obtain ⟨d, hd, e⟩ := List.mem_map.1 (Ea.inD_iff.1 hm)
    obtain ⟨i, hi, e2⟩ := List.mem_iff_getElem.1 hd
    rw [List.length_take] at hi
    have h1 := (List.pairwise_iff_getElem.1 hP.kn) i j (by rw [List.length_map]; omega) (by rw [List.length_map]; omega) (by omega)
    rw [List.getElem_map, List.getElem_map] at h1
    rw [List.getElem_take] at e2
    exact h1 (by rw [e2]; exact e)
/-- The last one that went, as far as the loop has come. -/
def lastP (P : List Du) : Nat → Int
  | 0 => 0
  | j + 1 => ((P[j]?).map (·.1)).getD 0
theorem lastP_succ {P : List Du} {j : Nat} (hj : j < P.length) : lastP P (j + 1) = P[j].1 := by
  show ((P[j]?).map (·.1)).getD 0 = _
  rw [List.getElem?_eq_getElem hj]; rfl
theorem lastP_le {m : Md} {g : ByteArray → Option Int} {n : Nat} (h : SwI m g n) {P : List Du} {now most : Int} (hP : SwP m.S P now most) {j : Nat} (hj : j < P.length) : lastP P j ≤ P[j].1 := by
  cases j with
  | zero =>
    have := (h.w1 _ (hP.ins _ (List.getElem_mem hj)).1).1
    show 0 ≤ _
    omega
  | succ i =>
    rw [lastP_succ (by omega)]
    exact ltE_le (List.pairwise_iff_getElem.1 hP.up i (i + 1) (by omega) hj (by omega))
theorem gdP_rest {m : Md} {g : ByteArray → Option Int} {n : Nat} (h : SwI m g n) {P : List Du} {now most : Int} (hP : SwP m.S P now most) {k : ByteArray} {t : Int} (hk : gdP g P P.length k = some t) : ((P.length : Int) < most → now < t) ∧ (0 < P.length → lastP P P.length ≤ t) := by
  unfold gdP at hk
  rw [List.take_length] at hk
  split at hk
  · cases hk
  · rename_i hn
    have hS := (h.sg t k).2 hk
    have h1 := hP.rest _ hS fun hin => hn (Ea.inD_iff.2 (List.mem_map.2 ⟨_, hin, rfl⟩))
    refine ⟨h1.1, fun hp => ?_⟩
    obtain ⟨j, hj⟩ : ∃ j, P.length = j + 1 := ⟨P.length - 1, by omega⟩
    rw [hj, lastP_succ (by omega)]
    exact h1.2 _ (List.getElem_mem _)
theorem gdP_isSome {m : Md} {g : ByteArray → Option Int} {n : Nat} (h : SwI m g n) {P : List Du} {now most : Int} (hP : SwP m.S P now most) : P.length ≤ n := by
  have h1 := h.ok.toPre.sl
  rw [h.n] at h1
  have h2 : P.length ≤ m.S.length := by
    have := sl_le (L := P.map (·.2)) (K := m.S.map (·.2)) hP.kn h.ok.sn fun x hx => by
      obtain ⟨d, hd, rfl⟩ := List.mem_map.1 hx
      exact List.mem_map_of_mem (hP.ins d hd).1
    rwa [List.length_map, List.length_map] at this
  omega
end Go.Proofs.YtmjlhmohglbecaaGreatDoor.Sa
/- StoreSweeps. Condition: the library's variables hold what start-up lays. -/
namespace Go.Proofs.YtmjlhmohglbecaaGreatDoor.Sa
set_option linter.unusedVariables false
set_option linter.unusedSimpArgs false
open Go.ChangeShapes Go.WideShapes Go.ChangeAt Go.RowKit
open Sp (Th Hp Stays All Ro roT rowT cellsT exT puT star mapT rngT setG)
theorem uI64 : Tryz.prog.underlying 2 = some (.int .i64) := Tryz.underlying2
theorem zI64 (w : World) : (zeroValue 2).run Tryz.prog w = .ok (.int .i64 0) w := by kernel_rfl
noncomputable def elI : Sp.El Tryz.prog 2 Int := Sp.intEl Tryz.prog 2 .i64 uI64 (by decide) zI64
theorem cellsE_at : ∀ (l : List (Int × ByteArray)) (j : Nat) (hj : j < l.length), (cellsE l)[j * 2]? = some (.int .i64 l[j].1) ∧ (cellsE l)[j * 2 + 1]? = some (.string l[j].2)
  | [], j, hj => absurd hj (Nat.not_lt_zero _)
  | e :: l, 0, hj => ⟨rfl, rfl⟩
  | e :: l, j + 1, hj => by
    have h := cellsE_at l j (by simpa using hj)
    have hc : cellsE (e :: l) = .int .i64 e.1 :: .string e.2 :: cellsE l := rfl
    rw [hc, show (j + 1) * 2 = j * 2 + 1 + 1 by omega, List.getElem?_cons_succ, List.getElem?_cons_succ, List.getElem?_cons_succ, List.getElem?_cons_succ]
    exact h
/-- The cells of an event. -/
theorem evs_cell {o w : World} {l : List Th} {g c : Nat} {E : List (Int × ByteArray)} (h : Hp o w (evsT (.slice (some ⟨g, 0, none⟩) E.length c) E :: l)) {j : Nat} (hj : j < E.length) : w.cell? ⟨g, j * 2, none⟩ = some (.int .i64 E[j].1) ∧ w.cell? ⟨g, j * 2 + 1, none⟩ = some (.string E[j].2) := by
  obtain ⟨h1, h2⟩ := cellsE_at E j hj
  exact ⟨(Sp.Hp.rowCell h (by omega)).trans h1, (Sp.Hp.rowCell h (by omega)).trans h2⟩
end Go.Proofs.YtmjlhmohglbecaaGreatDoor.Sa
/- StoreLast, plain: keys that are put one by one, and who is evicted. No program, no condition. -/
namespace Go.Proofs.YtmjlhmohglbecaaGreatDoor.Sa
set_option linter.unusedVariables false
set_option linter.unusedSimpArgs false
open Sp (setG setG_same setG_ne)
/-- A store of tens, and when each was put last. -/
structure LaI (m : Md) (U : ByteArray → Option Int) (i : Nat) : Prop where
  ok : Ok m
  s : m.S = []
  b0 : 200 ≤ m.b
  b1 : m.b ≤ 2000
  tn : ∀ k ∈ m.K, m.f k = tenI ∧ k.size ≤ 100
  ev : m.ev = []
  ku : ∀ k, k ∈ m.K ↔ (U k).isSome = true
  ur : ∀ k x, U k = some x → 1 ≤ x ∧ x ≤ i
  up : m.K.Pairwise fun a b => ∀ x y, U a = some x → U b = some y → x < y
theorem LaI.new {b : Int} (h0 : 200 ≤ b) (h1 : b ≤ 2000) : LaI (newM b) (fun _ => none) 0 :=
  ⟨Ok.new _, rfl, by show 200 ≤ budOf b; unfold budOf; omega, by show budOf b ≤ 2000; unfold budOf; omega, fun k h => (by cases h), rfl, fun k => ⟨fun h => (by cases h), fun h => (by cases h)⟩, fun k x h => (by cases h), List.Pairwise.nil⟩
theorem LaI.len {m : Md} {U : ByteArray → Option Int} {i : Nat} (h : LaI m U i) : m.K.length ≤ 40 := by
  have h1 : ∀ K : List ByteArray, (∀ k ∈ K, m.f k = tenI) → 58 * K.length ≤ sumB m.f K := fun K => by
    induction K with
    | nil => intro _; exact Nat.le_refl _
    | cons k K ih =>
      intro hK
      have := ih fun x hx => hK x (List.mem_cons_of_mem _ hx)
      rw [sumB_cons, hK k (List.mem_cons_self ..), ten_cost, List.length_cons]
      omega
  have h2 := h1 m.K fun k hk => (h.tn k hk).1
  have h3 := h.ok.le
  have h4 := h.b1
  omega
/-- What a Put makes of it: who goes (C), who stays (B). -/
structure LaP (m : Md) (k : ByteArray) (m' : Md) (C B : List ByteArray) : Prop where
  k1 : Ca.touchK k m.K = C ++ B
  kb : m'.K = B
  la : ∃ D, B = D ++ [k]
  ev : m'.ev = (1, k) :: C.map fun c => ((4 : Int), c)
  s : m'.S = []
  f : m'.f = updF m.f k tenI
  b : m'.b = m.b
theorem LaI.put {m : Md} {U : ByteArray → Option Int} {i : Nat} (h : LaI m U i) (k : ByteArray) (hk : k.size ≤ 100) : putN k tenI true m = 0 ∧ Ok (putM k tenI false 0 true m) ∧ ∃ C B, LaP m k (putM k tenI false 0 true m) C B := by
  have hc : ((costN k tenI : Nat) : Int) ≤ m.b := by rw [ten_cost]; have := h.b0; omega
  have hok := h.ok.putM k tenI false 0 true fun _ => ten_right
  refine ⟨put_ok m k (by omega) tenI hc, hok, ?_⟩
  have he : putM k tenI false 0 true m = evM (setM k tenI false m) := by
    unfold putM
    rw [if_neg (by rintro (h | h); omega; cases h), end_none h.s, if_neg (by omega)]
  have hn : (setM k tenI false m).K.Nodup := Ca.touchK_nodup h.ok.kn
  have hsS : (setM k tenI false m).S = [] := by show Ea.dropD k m.S = []; rw [h.s]; rfl
  have key : ∃ C, (setM k tenI false m).K = C ++ (evM (setM k tenI false m)).K ∧ (evM (setM k tenI false m)).ev = (setM k tenI false m).ev ++ C.map (fun c => ((4 : Int), c)) ∧ (evM (setM k tenI false m)).S = [] ∧ (evM (setM k tenI false m)).K.Nodup := by
    refine evM_ind (P := fun a => ∃ C, (setM k tenI false m).K = C ++ a.K ∧ a.ev = (setM k tenI false m).ev ++ C.map (fun c => ((4 : Int), c)) ∧ a.S = [] ∧ a.K.Nodup) (fun a x y r ha e _ => ?_) ⟨[], rfl, by simp, hsS, hn⟩
    obtain ⟨C, h1, h2, h3, h4⟩ := ha
    have hk := lose_head h4 e 4
    refine ⟨C ++ [x], ?_, ?_, ?_, ?_⟩
    · rw [h1, hk, e]; simp
    · show a.ev ++ [(4, x)] = _
      rw [h2]; simp
    · show Ea.dropD x a.S = []
      rw [h3]; rfl
    · rw [hk]
      rw [e] at h4
      exact (List.nodup_cons.1 h4).2
  obtain ⟨C, h1, h2, h3, -⟩ := key
  obtain ⟨D, hD, -⟩ := evM_last hn (A := Ca.dropK k m.K) (k := k) rfl
  refine ⟨C, (evM (setM k tenI false m)).K, ?_⟩
  rw [he]
  refine ⟨h1, rfl, ⟨D, hD⟩, ?_, h3, evM_f _, evM_b _⟩
  rw [h2]
  show (m.ev ++ [(1, k)]) ++ _ = _
  rw [h.ev]; rfl
/-- What the map says without the first so many. -/
def outU (U : ByteArray → Option Int) (C : List ByteArray) (j : Nat) : ByteArray → Option Int := fun k => if Ca.inK k (C.take j) = true then none else U k
theorem outU_zero (U : ByteArray → Option Int) (C : List ByteArray) : outU U C 0 = U := by
  funext k
  unfold outU
  rw [List.take_zero, if_neg (by simp [Ca.inK])]
theorem outU_succ (U : ByteArray → Option Int) (C : List ByteArray) {j : Nat} (hj : j < C.length) : setG (outU U C j) C[j] none = outU U C (j + 1) := by
  funext k
  unfold outU setG
  rw [← List.take_append_getElem hj]
  have h1 : Ca.inK k (C.take j ++ [C[j]]) = (Ca.inK k (C.take j) || decide (C[j] = k)) := by
    rw [Bool.eq_iff_iff, Ca.inK_iff, Bool.or_eq_true, Ca.inK_iff, List.mem_append, List.mem_singleton, decide_eq_true_iff]
    exact ⟨fun h => h.imp id Eq.symm, fun h => h.imp id Eq.symm⟩
  rw [h1]
  by_cases e : k = C[j]
  · rw [if_pos e, if_pos (by rw [decide_eq_true e.symm, Bool.or_true])]
  · rw [if_neg e, decide_eq_false (fun h => e h.symm), Bool.or_false]
theorem outU_at {U : ByteArray → Option Int} {C : List ByteArray} (hn : C.Nodup) {j : Nat} (hj : j < C.length) : outU U C j C[j] = U C[j] := by
  unfold outU
  rw [if_neg]
  intro h
  obtain ⟨i, hi, e⟩ := List.mem_iff_getElem.1 (Ca.inK_iff.1 h)
  rw [List.length_take] at hi
  rw [List.getElem_take] at e
  exact (List.pairwise_iff_getElem.1 hn) i j (by omega) hj (by omega) e
section
variable {m m' : Md} {U : ByteArray → Option Int} {i : Nat} {k : ByteArray} {C B : List ByteArray}
theorem LaI.u1 (h : LaI m U i) : (∀ x, x ∈ Ca.touchK k m.K ↔ (setG U k (some (i + 1 : Int)) x).isSome = true) ∧ (∀ x z, setG U k (some (i + 1 : Int)) x = some z → 1 ≤ z ∧ z ≤ i + 1) ∧ (Ca.touchK k m.K).Pairwise fun a b => ∀ x y, setG U k (some (i + 1 : Int)) a = some x → setG U k (some (i + 1 : Int)) b = some y → x < y := by
  refine ⟨fun x => ?_, fun x z hz => ?_, ?_⟩
  · rw [mem_touchK]
    unfold setG
    by_cases e : x = k
    · rw [if_pos e]; exact ⟨fun _ => rfl, fun _ => .inl e⟩
    · rw [if_neg e, ← h.ku]; exact ⟨fun h => h.resolve_left e, .inr⟩
  · unfold setG at hz
    by_cases e : x = k
    · rw [if_pos e] at hz
      have := Option.some.inj hz
      omega
    · rw [if_neg e] at hz
      have := h.ur x z hz
      omega
  · unfold Ca.touchK
    refine List.pairwise_append.2 ⟨?_, List.pairwise_singleton _ _, fun a ha b hb x y hx hy => ?_⟩
    · refine List.Pairwise.imp_of_mem (fun {a b} ha hb hab x y hx hy => ?_) (h.up.sublist (List.filter_sublist (p := fun y => !decide (y = k))))
      rw [setG_ne (Ca.mem_dropK.1 ha).2] at hx
      rw [setG_ne (Ca.mem_dropK.1 hb).2] at hy
      exact hab x y hx hy
    · rw [setG_ne (Ca.mem_dropK.1 ha).2] at hx
      rw [List.mem_singleton.1 hb, setG_same] at hy
      have h1 := h.ur a x hx
      have := Option.some.inj hy
      omega
theorem LaP.nodup (h : LaI m U i) (p : LaP m k m' C B) : C.Nodup ∧ B.Nodup ∧ ∀ c ∈ C, c ∉ B := by
  have hn : (Ca.touchK k m.K).Nodup := Ca.touchK_nodup h.ok.kn
  rw [p.k1] at hn
  have h1 := List.nodup_append.1 hn
  exact ⟨h1.1, h1.2.1, fun c hc hb => h1.2.2 c hc c hb rfl⟩
/-- Who goes was put before whoever stays. -/
theorem LaP.old (h : LaI m U i) (p : LaP m k m' C B) {c b : ByteArray} (hc : c ∈ C) (hb : b ∈ B) {x y : Int} (hx : setG U k (some (i + 1 : Int)) c = some x) (hy : setG U k (some (i + 1 : Int)) b = some y) : x < y := by
  have h1 := (h.u1 (k := k)).2.2
  rw [p.k1] at h1
  exact (List.pairwise_append.1 h1).2.2 c hc b hb x y hx hy
theorem LaP.next (h : LaI m U i) (p : LaP m k m' C B) (hk : k.size ≤ 100) (hok : Ok m') : LaI (toldM m') (outU (setG U k (some (i + 1 : Int))) C C.length) (i + 1) := by
  obtain ⟨h1, h2, h3⟩ := h.u1 (k := k)
  obtain ⟨n1, n2, n3⟩ := LaP.nodup h p
  have hout : ∀ x, x ∉ C → outU (setG U k (some (i + 1 : Int))) C C.length x = setG U k (some (i + 1 : Int)) x := fun x hx => by
    unfold outU
    rw [List.take_length, if_neg (fun hh => hx (Ca.inK_iff.1 hh))]
  have hin : ∀ x, x ∈ C → outU (setG U k (some (i + 1 : Int))) C C.length x = none := fun x hx => by
    unfold outU
    rw [List.take_length, if_pos (Ca.inK_iff.2 hx)]
  rw [p.k1] at h1 h3
  refine ⟨hok.told, p.s, by show 200 ≤ m'.b; rw [p.b]; exact h.b0, by show m'.b ≤ 2000; rw [p.b]; exact h.b1, fun x hx => ?_, rfl, fun x => ?_, fun x z hz => ?_, ?_⟩
  · have hx : x ∈ m'.K := hx
    rw [p.kb] at hx
    have hf : (toldM m').f = updF m.f k tenI := p.f
    rw [hf]
    by_cases e : x = k
    · subst e; exact ⟨updF_same _ _ _, hk⟩
    · rw [updF_ne e]
      have : x ∈ Ca.touchK k m.K := by rw [p.k1]; exact List.mem_append.2 (.inr hx)
      exact h.tn x ((mem_touchK.1 this).resolve_left e)
  · show x ∈ m'.K ↔ _
    rw [p.kb]
    by_cases hc : x ∈ C
    · rw [hin x hc]
      exact ⟨fun hb => absurd hb (n3 x hc), fun hh => (by cases hh)⟩
    · rw [hout x hc, ← h1, List.mem_append]
      exact ⟨.inr, fun hh => hh.resolve_left hc⟩
  · by_cases hc : x ∈ C
    · rw [hin x hc] at hz; cases hz
    · rw [hout x hc] at hz
      have := h2 x z hz
      omega
  · show m'.K.Pairwise _
    rw [p.kb]
    refine List.Pairwise.imp_of_mem (fun {a b} ha hb hab x y hx hy => ?_) (List.pairwise_append.1 h3).2.1
    rw [hout a (fun hc => n3 a hc ha)] at hx
    rw [hout b (fun hc => n3 b hc hb)] at hy
    exact hab x y hx hy
theorem LaP.lens (h : LaI m U i) (p : LaP m k m' C B) : C.length + B.length = m.K.length + if (U k).isSome = true then 0 else 1 := by
  have h1 : (Ca.touchK k m.K).length = C.length + B.length := by rw [p.k1, List.length_append]
  rw [← h1]
  by_cases e : k ∈ m.K
  · rw [touchK_len h.ok.kn e, if_pos ((h.ku k).1 e)]; rfl
  · rw [touchK_permNo e, List.length_append, if_neg (fun hh => e ((h.ku k).2 hh))]; rfl
end
end Go.Proofs.YtmjlhmohglbecaaGreatDoor.Sa
/- StoreLast. Condition: the library's variables hold what start-up lays. -/
namespace Go.Proofs.YtmjlhmohglbecaaGreatDoor.Sa
set_option linter.unusedVariables false
set_option linter.unusedSimpArgs false
open Go.ChangeShapes Go.WideShapes Go.ChangeAt Go.RowKit
open Sp (Th Hp Stays All Ro roT rowT cellsT exT puT star mapT rngT setG)
theorem uInt : Tryz.prog.underlying 3 = some (.int .i64) := Tryz.underlying3
theorem zInt (w : World) : (zeroValue 3).run Tryz.prog w = .ok (.int .i64 0) w := by kernel_rfl
noncomputable def elN : Sp.El Tryz.prog 3 Int := Sp.intEl Tryz.prog 3 .i64 uInt (by decide) zInt
def InO (W : World) (a : Option Addr) (l : List ByteArray) : Prop := 0 < l.length → ∃ b o, a = some ⟨b, o, none⟩ ∧ b < W.heap.size ∧ ∀ i (h : i < l.length), W.cell? ⟨b, o + i, none⟩ = some (.string l[i])
set_option maxHeartbeats 16000000 in
set_option maxRecDepth 100000 in
theorem storeLast (w : World) (hc : Ctx w) (bud : Int) (xa : Option Addr) (xc : Nat) (l : List ByteArray) (hI : InO w xa l) (hS : ∀ i (h : i < l.length), l[i].size ≤ maxLen) :
    Calls Tryz.prog 5 #[.int .i64 bud, .slice xa l.length xc] w fun e w' => e = .returned (.bool true) ∧ Below w.heap.size w w' := by
  have HA := Lib.hid (storeAlive w hc)
  have HI := Lib.hid hI
  have HSz := Lib.hid hS
  clear hI hS
  go_enter Tryz.func5, Tryz.ntmps5
  go_wp2_with fail
  refine HA.out.mono ?_; rintro en w1 ⟨rfl, hb1⟩
  have HB1 := Lib.hid hb1
  clear HA hb1
  by_cases h40 : 40 < l.length
  · have h40c : (40 : Int) < (l.length : Int) := by omega
    go_wp2_with fail
    go_ret
    exact ⟨rfl, HB1.out⟩
  have h40c : ¬ (40 : Int) < (l.length : Int) := by omega
  by_cases hb0 : bud < 200
  · go_wp2_with fail
    go_ret
    exact ⟨rfl, HB1.out⟩
  by_cases hb1 : 2000 < bud
  · go_wp2_with fail
    go_ret
    exact ⟨rfl, HB1.out⟩
  have HN := Lib.hid (new_calls (Hp.nil HB1.out) (Below.refl _ _) bud)
  unfold ptr at HN
  have HL0 := Lib.hid (LaI.new (b := bud) (by omega) (by omega))
  have hmm := @run_makeMap Tryz.prog
  go_wp2_with fail
  refine HN.out.mono ?_; rintro en w2 ⟨T, rfl, h2⟩
  have H2 := Lib.hid (h2.mapNew 9 elN)
  clear h2 HN
  go_wp2_with fail
  clear hmm
  generalize w2.alloc (.map #[] 0) = w3 at *
  generalize w2.heap.size = M at *
  have HTn := Lib.hid ten_calls
  have HBud : Hid ((newM bud).b = bud) := Lib.hid (by show budOf bud = bud; unfold budOf; omega)
  go_loopg [7, 8, 9, 11, 12, 13, 15, 34] (l.length + 1) (fun g _ _ _ _ _ _ _ vi wr => ∃ (i n : Nat) (m : Md) (U : ByteArray → Option Int), vi = .int .i64 i ∧ i ≤ l.length ∧ l.length - i ≤ g ∧ Hid (m.K.length = n) ∧ Hid (m.b = bud) ∧ Hid (LaI m U i) ∧ Hid (Hp w wr [mapT 9 elN M n i U, storeT T m]))
  case atStart => exact ⟨0, 0, newM bud, fun _ => none, rfl, by omega, by omega, Lib.hid rfl, HBud, HL0, H2⟩
  case round =>
    obtain ⟨i, n, m, U, rfl, hi, hg, HN, HBu, HS, HH⟩ := hrel
    clear H2 HL0
    by_cases hil : i < l.length
    case neg =>
      have hic : ¬ ((i : Int) < (l.length : Int)) := by omega
      obtain ⟨E, hE0, hlen⟩ := store_len (HH.out.pull 1 rfl)
      have HL : Hid (∀ wb, Below wr.heap.size wr wb → Calls Tryz.prog 11 #[.pointer (some ⟨E, 0, none⟩)] wb fun e w' => e = .returned (.int .i64 n) ∧ ∃ n, w' = wb.drewN n) := Lib.hid (by
        intro wb hb
        have h1 := hlen wb hb
        rw [HN.out] at h1
        exact h1)
      clear hlen
      go_wp2_with fail
      refine (HL.out _ (Below.refl _ _)).mono ?_; rintro en w8 ⟨rfl, nn, rfl⟩
      have H2 := Lib.hid (HH.out.bel (Ta.drewN_below wr nn))
      clear HH hE0 HL
      generalize wr.drewN nn = W8 at *
      go_wp2_with (at_len; refine Sp.Hp.mapLenAt H2.out rfl _ 60 rfl Tryz.underlying60 rfl ?_)
      go_ret
      exact ⟨rfl, H2.out.below⟩
    case pos =>
      have hic : (i : Int) < (l.length : Int) := by omega
      obtain ⟨b, o, rfl, hlt, hcs⟩ := HI.out (by omega)
      have c0 := hcs i hil
      have e : ∀ j, wr.cell? ⟨b, j, none⟩ = w.cell? ⟨b, j, none⟩ := fun j => HH.out.below.cell (p := ⟨b, j, none⟩) hlt
      rw [← e] at c0
      have HKM := Lib.hid (HSz.out i hil)
      clear hcs e hlt
      generalize l[i] = k at *
      by_cases hks : 100 < k.size
      · have hkc : (100 : Int) < (k.size : Int) := by omega
        go_wp2_with fail
        go_ret
        exact ⟨rfl, HH.out.below⟩
      have hkc : ¬ (100 : Int) < (k.size : Int) := by omega
      obtain ⟨hpn, hok1, C, B, hP⟩ := HS.out.put k (by omega)
      have hnd := LaP.nodup HS.out hP
      have HCz : Hid (∀ c ∈ Ca.touchK k m.K, c.size ≤ 600) := Lib.hid (fun c hc => by
        rcases mem_touchK.1 hc with e | e
        · rw [e]; omega
        · have := HS.out.ok.kz c e; omega)
      have hKl := HS.out.len
      have hml : (n + if (U k).isSome = true then 0 else 1) = C.length + B.length := by rw [hP.lens HS.out, HN.out]
      have HML := Lib.hid hml
      have hcb : C.length + B.length ≤ 41 := by rw [← hml]; have := HN.out; split <;> omega
      have HND := Lib.hid hnd
      have HP := Lib.hid hP
      have HO1 := Lib.hid hok1
      have HPN := Lib.hid hpn
      obtain ⟨m1, hm1⟩ : ∃ m1, putM k tenI false 0 true m = m1 := ⟨_, rfl⟩
      have HPt : Hid (∀ wb, Below wr.heap.size wr wb → Calls Tryz.prog 22 #[.pointer (some ⟨T, 0, none⟩), .string k, itV none 0 tenI, .bool false, .int .i64 0] wb fun e w' => e = .returned (.int .i64 0) ∧ Hp w w' [storeT T m1, mapT 9 elN M n i U]) := Lib.hid (fun wb hb => by
        have h1 := put_ten (HH.out.pull 1 rfl) hb HS.out.ok hc k (by omega) 0 (by omega) (by rw [HS.out.ev]; exact Nat.zero_le _)
        rw [hpn, hm1] at h1
        exact h1)
      rw [hm1] at HP HO1
      clear hpn hok1 hP hnd hml hm1
      go_wp2_with fail
      refine (HTn.out _).mono ?_; rintro en w4 ⟨rfl, hb4⟩
      have HPt1 := Lib.hid (HPt.out w4 hb4)
      clear hb4 HPt c0
      go_wp2_with fail
      refine HPt1.out.mono ?_; rintro en w5 ⟨rfl, h5⟩
      have H5 : Hid (Hp w w5 [mapT 9 elN M n i U, storeT T m1]) := Lib.hid (h5.pull 1 rfl)
      clear h5 HPt1 HH
      have HWT : Hid ((Lit.int .i64 ((i : Int) + 1)).wf = true) := Lib.hid (WalkArith.wf_i64 ⟨by omega, by omega⟩)
      go_wp2_with (at_mapUpdate; refine Sp.Hp.mapPut H5.out rfl _ _ _ 60 rfl Tryz.underlying9 Tryz.underlying60 rfl k rfl HKM.out ((i : Int) + 1) rfl HWT.out (by unfold maxLen; omega) (C.length + B.length) HML.out ?_)
      intro w6 h6
      have H6 : Hid (Hp w w6 [storeT T m1, mapT 9 elN M (C.length + B.length) (i + 1) (setG U k (some ((i : Int) + 1)))]) := Lib.hid (Sp.Hp.pull h6 1 rfl)
      clear h6 H5
      obtain ⟨E, hE0, hky⟩ := store_keys H6.out
      have HKy := Lib.hid (hky w6 (Below.refl _ _))
      clear hky
      go_wp2_with fail
      refine HKy.out.mono ?_; rintro en w7 ⟨L, g, kc, rfl, hko, h7⟩
      obtain ⟨U1, hU1⟩ : ∃ U1, setG U k (some ((i : Int) + 1)) = U1 := ⟨_, rfl⟩
      have HU : Hid ((∀ x, x ∈ Ca.touchK k m.K ↔ (U1 x).isSome = true) ∧ (∀ x z, U1 x = some z → 1 ≤ z ∧ z ≤ i + 1)) := Lib.hid (by rw [← hU1]; exact ⟨(HS.out.u1 (k := k)).1, (HS.out.u1 (k := k)).2.1⟩)
      have HOld : Hid (∀ c b : ByteArray, c ∈ C → b ∈ B → ∀ x y, U1 c = some x → U1 b = some y → x < y) := Lib.hid (by rw [← hU1]; exact fun c b hc hb x y hx hy => HP.out.old HS.out hc hb hx hy)
      have HNx : Hid (LaI (toldM m1) (outU U1 C C.length) (i + 1)) := Lib.hid (by rw [← hU1]; exact HP.out.next HS.out (by omega) HO1.out)
      have HLB : Hid (∀ x, x ∈ L → x ∈ B) := Lib.hid (fun x hx => by rw [← HP.out.kb]; exact (hko.mem x).1 hx)
      have hLl : L.length ≤ 41 := by rw [hko.len, HP.out.kb]; omega
      rw [hU1] at h7
      have H7 : Hid (Hp w w7 [mapT 9 elN M (C.length + B.length) (i + 1) U1, roT (strsR g L), storeT T m1]) := Lib.hid (h7.pull 2 rfl)
      have HK1 : Hid (∀ c ∈ C, c ∈ Ca.touchK k m.K) := Lib.hid (fun c hc => by rw [HP.out.k1]; exact List.mem_append.2 (.inl hc))
      have HKB : Hid (∀ c ∈ B, c ∈ Ca.touchK k m.K) := Lib.hid (fun c hc => by rw [HP.out.k1]; exact List.mem_append.2 (.inr hc))
      clear h7 HKy hE0 H6 hko hU1 HS
      go_wp2_with fail
      obtain ⟨gO, rfl⟩ : ∃ gO : Nat, gO = gk := ⟨_, rfl⟩
      go_loopg [9, 11, 60] (L.length + 1) (fun g2 vo _ vi wr => ∃ (j : Nat) (old : Int), vi = .int .i64 j ∧ j ≤ L.length ∧ L.length - j ≤ g2 ∧ vo = .int .i64 old ∧ 0 ≤ old ∧ old ≤ 100 ∧ Hid (∀ c ∈ C, ∀ x, U1 c = some x → x ≤ old) ∧ Hid (Hp w wr [mapT 9 elN M (C.length + B.length) (i + 1) U1, roT (strsR g L), storeT T m1]))
      case atStart => exact ⟨0, (l.length : Int) + 1, rfl, by omega, by omega, rfl, by omega, by omega, Lib.hid (fun c hc x hx => by have := (HU.out.2 c x hx).2; omega), H7⟩
      case round =>
        obtain ⟨j, old, rfl, hj, hg2, rfl, ho0, ho1, HOl, HH⟩ := hrel
        clear H7
        by_cases hjl : j < L.length
        case pos =>
          have hjc : (j : Int) < (L.length : Int) := by omega
          have c0 := strs_cell (HH.out.pull 1 rfl) hjl
          have hB := HLB.out _ (List.getElem_mem hjl)
          generalize L[j] = q at *
          obtain ⟨y, hy⟩ : ∃ y, U1 q = some y := Option.isSome_iff_exists.1 ((HU.out.1 q).1 (HKB.out q hB))
          have hyr := HU.out.2 q y hy
          have hqs : q.size ≤ maxLen := by
            have h1 : q ∈ Ca.touchK k m.K := HKB.out q hB
            have h2 : q ∈ m1.K := by rw [HP.out.kb]; exact hB
            have := HO1.out.kz q h2
            unfold maxLen; omega
          have hlk : (Instr.lookup 60 (.map (some M)) (.string q) false).run Tryz.prog wr = .ok (.int .i64 y) wr := by
            have h1 := Sp.Hp.mapLook (T := 60) HH.out Tryz.underlying9 Tryz.underlying60 q hqs
            rw [hy] at h1
            exact h1
          have HOn : Hid (∀ c ∈ C, ∀ x, U1 c = some x → x ≤ min old y) := Lib.hid (fun c hc x hx => by
            have h1 := HOl.out c hc x hx
            have h2 := HOld.out c q hc hB x y hx hy
            omega)
          clear hy HOl hB
          go_wp2_with fail
          go_roundg (gk - 1)
          case measure => omega
          case rel => exact ⟨j + 1, min old y, by go_num, by omega, by omega, rfl, by omega, by omega, HOn, HH⟩
        case neg =>
          have hjc : ¬ ((j : Int) < (L.length : Int)) := by omega
          have H8 : Hid (Hp w wr [storeT T m1, mapT 9 elN M (C.length + B.length) (i + 1) U1]) := Lib.hid ((HH.out.pull 1 rfl).drop.pull 1 rfl)
          have hpk := peek_calls H8.out (Below.refl _ _) HO1.out hc k (by omega) 0 (by rw [HP.out.kb]; omega) (by rw [HP.out.ev]; simp; omega)
          have hkin : Ca.inK k m1.K = true := Ca.inK_iff.2 (by rw [HP.out.kb]; obtain ⟨D, hD⟩ := HP.out.la; rw [hD]; simp)
          rw [end_none HP.out.s, hkin] at hpk
          have HPk := Lib.hid hpk
          unfold ptr itV at HPk
          clear hpk hkin HH
          go_wp2_with fail
          refine HPk.out.mono ?_; rintro en w9 ⟨pa, pc, rfl, h9⟩
          obtain ⟨it, hit⟩ : ∃ it, gotI k m1 = it := ⟨_, rfl⟩
          rw [hit] at h9 ⊢
          have H9 : Hid (Hp w w9 [storeT T m1, mapT 9 elN M (C.length + B.length) (i + 1) U1]) := Lib.hid h9.drop
          have H10 : Hid (Hp w (w9.alloc (.cells #[.int .i64 it.k, .string it.t, .slice pa it.l.length pc] 31)) [storeT T m1, mapT 9 elN M (C.length + B.length) (i + 1) U1]) := Lib.hid (H9.out.bel (Sp.bbox _))
          clear h9 HPk hit H8 H9
          go_upto_region 22 with fail
          generalize w9.alloc (.cells #[.int .i64 it.k, .string it.t, .slice pa it.l.length pc] 31) = W10 at *
          generalize w9.heap.size = BX at *
          have hby := bytes_calls H10.out (Below.refl _ _)
          have hle := HO1.out.le
          rw [HP.out.b, HBu.out] at hle
          generalize ((sumB m1.f m1.K : Nat) : Int) = sz at *
          have hle2 : ¬ bud < sz := by omega
          have HBy := Lib.hid hby
          have HEv := Lib.hid (events_calls H10.out (Below.refl _ _) HO1.out)
          rw [HP.out.ev] at HEv
          unfold ptr at HBy HEv
          clear hby hle
          go_wp2_with fail
          refine HBy.out.mono ?_; rintro en w11 ⟨rfl, rfl⟩
          go_simp
          iterate 13 (first | go_values | go_skip | go_guarded | go_step | go_upon)

          rw [decide_eq_false (show ¬ bud < sz by omega)]
          go_wp2_with fail
          refine HEv.out.mono ?_; rintro en w12 ⟨v12, rfl, h12⟩
          obtain ⟨ea, ec, rfl, -, hec, hea⟩ := h12.rowForm
          obtain ⟨gb, rfl⟩ := hea (by simp)
          obtain ⟨E, hE⟩ : ∃ E : List (Int × ByteArray), (((1 : Int), k) :: C.map fun c => ((4 : Int), c)) = E := ⟨_, rfl⟩
          rw [hE] at h12 ⊢
          have hEl : E.length = C.length + 1 := by rw [← hE]; simp
          have HE0 : Hid (∀ (h : 0 < E.length), E[0] = (1, k)) := Lib.hid (by subst hE; intro h; rfl)
          have HEs : Hid (∀ t (h : t + 1 < E.length) (hp : t < C.length), E[t + 1] = (4, C[t])) := Lib.hid (by subst hE; intro t h hp; simp)
          have H12 : Hid (Hp w w12 [mapT 9 elN M (C.length + B.length) (i + 1) U1, evsT (.slice (some ⟨gb, 0, none⟩) E.length ec) E, storeT T (toldM m1)]) := Lib.hid (h12.pull 2 rfl)
          clear h12 HEv HBy H10 hE hea hle2
          go_wp2_with fail
          go_loopg [15, 87] (E.length + 1) (fun g3 _ vi wr => ∃ t : Nat, vi = .int .i64 t ∧ t ≤ E.length ∧ E.length - t ≤ g3 ∧ Hid (Hp w wr [mapT 9 elN M (C.length + B.length - (t - 1)) (i + 1) (outU U1 C (t - 1)), evsT (.slice (some ⟨gb, 0, none⟩) E.length ec) E, storeT T (toldM m1)]))
          case atStart => exact ⟨0, rfl, by omega, by omega, by rw [outU_zero]; exact H12⟩
          case round =>
            obtain ⟨t, rfl, ht, hg3, HH⟩ := hrel
            clear H12
            by_cases htl : t < E.length
            case neg =>
              have htc : ¬ ((t : Int) < (E.length : Int)) := by omega
              obtain rfl : t = C.length + 1 := by omega
              have HF : Hid (Hp w wr [mapT 9 elN M B.length (i + 1) (outU U1 C C.length), storeT T (toldM m1)]) := Lib.hid (by
                have h1 := Hp.dropAt HH.out 1 rfl
                rw [show C.length + B.length - (C.length + 1 - 1) = B.length by omega, show C.length + 1 - 1 = C.length by omega] at h1
                exact h1)
              have HKB2 : Hid ((toldM m1).K.length = B.length) := Lib.hid (by show m1.K.length = _; rw [HP.out.kb])
              have HBu2 : Hid ((toldM m1).b = bud) := Lib.hid (by show m1.b = _; rw [HP.out.b, HBu.out])
              clear HH
              go_wp2_with fail
              go_roundg (gO - 1)
              case measure => omega
              case rel => exact ⟨i + 1, B.length, toldM m1, _, by go_num, by omega, by omega, HKB2, HBu2, HNx, HF⟩
            case pos =>
              have htc : (t : Int) < (E.length : Int) := by omega
              obtain ⟨e0, e1⟩ := evs_cell (HH.out.pull 1 rfl) htl
              cases t with
              | zero =>
                have hE := HE0.out htl
                rw [hE] at e0 e1
                have HX := Lib.hid (HH.out.bel (Sp.bbox (w := wr) (.cells #[.int .i64 1, .string k] 62)))
                clear hE
                go_wp2_with fail
                go_roundg (gk - 1)
                case measure => omega
                case rel => exact ⟨1, by go_num, by omega, by omega, HX⟩
              | succ s =>
                have hs : s < C.length := by omega
                have hE := HEs.out s htl hs
                rw [hE] at e0 e1
                clear hE
                have hCm := List.getElem_mem hs
                obtain ⟨y, hy⟩ : ∃ y, U1 C[s] = some y := Option.isSome_iff_exists.1 ((HU.out.1 _).1 (HK1.out _ hCm))
                have hyo : ¬ old < y := by have := HOl.out _ hCm y hy; omega
                have hyr := HU.out.2 _ y hy
                have hcz : C[s].size ≤ maxLen := by have := HCz.out _ (HK1.out _ hCm); unfold maxLen; omega
                have HGa : Hid (outU U1 C s C[s] = some y) := Lib.hid ((outU_at HND.out.1 hs).trans hy)
                have HGs := Lib.hid (outU_succ U1 C hs)
                rw [show s + 1 - 1 = s from Nat.add_sub_cancel s 1] at HH
                have HX := Lib.hid (HH.out.bel (Sp.bbox (w := wr) (.cells #[.int .i64 4, .string C[s]] 62)))
                clear HH
                have hlk : (Instr.lookup 60 (.map (some M)) (.string C[s]) false).run Tryz.prog (wr.alloc (.cells #[.int .i64 4, .string C[s]] 62)) = .ok (.int .i64 y) (wr.alloc (.cells #[.int .i64 4, .string C[s]] 62)) := by
                  have h1 := Sp.Hp.mapLook (T := 60) HX.out Tryz.underlying9 Tryz.underlying60 C[s] hcz
                  rw [HGa.out] at h1
                  exact h1
                clear hy hCm
                obtain ⟨q, hq⟩ : ∃ q, C[s] = q := ⟨_, rfl⟩
                rw [hq] at hlk HGa HGs e1 hcz HX
                obtain ⟨n2, hn2⟩ : ∃ n2, C.length + B.length - (s + 1) = n2 := ⟨_, rfl⟩
                have HN2 : Hid ((C.length + B.length - s - if (outU U1 C s q).isSome = true then 1 else 0) = n2) := Lib.hid (by rw [HGa.out, ← hn2]; show C.length + B.length - s - 1 = _; omega)
                have HN3 := Lib.hid hn2
                clear hn2 hq
                go_wp2_with (at_delete; refine Sp.Hp.mapDel HX.out rfl _ _ 60 _ rfl rfl Tryz.underlying9 Tryz.underlying60 rfl q rfl hcz n2 HN2.out ?_)
                intro w17 h17
                rw [HGs.out, ← HN3.out] at h17
                have H17 := Lib.hid h17
                clear h17 HX e0 e1 hlk
                go_wp2_with fail
                go_roundg (gk - 1)
                case measure => omega
                case rel => exact ⟨s + 2, by go_num, by omega, by omega, by rw [hEl]; exact H17⟩
end Go.Proofs.YtmjlhmohglbecaaGreatDoor.Sa
